/- Several texts in one (The definition of layer 4: Numeral, told by numL; The definition of layer 4: Prefix, walked; The definition of layer 4: Prefix, walked to its end; The definition of layer 4: Prefix told by sigL; the definition's exponents give the same floats; Looks; The definition of layer 4: Literal; The definition's Literal at numerals; the walk of the law NumTexts; The walk of the law NumTexts). -/
import Derived.Test.YtlpobomlnlakcaaGreatDoorPk12
namespace Go.Proofs.YtlpobomlnlakcaaGreatDoor
open Go.RowKit Go.Lib

theorem drop_at {S : ByteArray} {q : Nat} (hq : q < S.size) : S.data.toList.drop q = S[q]'hq :: S.data.toList.drop (q + 1) := by
  have hl : q < S.data.toList.length := by rw [ba_len]; exact hq
  have hb := ba_byte S rfl q hq
  rw [List.getElem?_eq_getElem hl] at hb
  rw [List.drop_eq_getElem_cons hl, Option.some.inj hb]
theorem drop_far {S : ByteArray} {q : Nat} (hq : S.size ≤ q) : S.data.toList.drop q = [] := List.drop_eq_nil_of_le (by rw [ba_len]; exact hq)
theorem run_drop (S : List UInt8) (p : Nat) : (S.drop p).dropWhile isD = S.drop (p + nDig (S.drop p)) := by rw [← nDig_drop, List.drop_drop]
theorem skind_any (S : ByteArray) (k : Nat) : ∃ b k', SKind S k b k' ∧ (sgnL (S.data.toList.drop k)).1 = b ∧ (sgnL (S.data.toList.drop k)).2 = S.data.toList.drop k' ∧ k' ≤ k + 1 ∧ k ≤ k' := by
  by_cases hk : k < S.size
  · rw [drop_at hk]
    obtain ⟨c, hc⟩ : ∃ c, S[k]'hk = c := ⟨_, rfl⟩
    rw [hc]
    by_cases h1 : c = 45
    · subst h1
      exact ⟨true, k + 1, .minus _ rfl hk (by rw [hc]; rfl), rfl, rfl, by omega, by omega⟩
    · by_cases h2 : c = 43
      · subst h2
        exact ⟨false, k + 1, .plus _ rfl hk (by rw [hc]; rfl), rfl, rfl, by omega, by omega⟩
      · have e : sgnL (c :: S.data.toList.drop (k + 1)) = (false, c :: S.data.toList.drop (k + 1)) := by
          unfold sgnL
          split
          · rename_i h; exact absurd (List.cons.inj h).1 h1
          · rename_i h; exact absurd (List.cons.inj h).1 h2
          · rfl
        refine ⟨false, k, .other _ rfl hk ⟨?_, ?_⟩, by rw [e], ?_, by omega, by omega⟩
        · rw [hc]; intro h; exact h2 (UInt8.toNat_inj.1 (by rw [h]; rfl))
        · rw [hc]; intro h; exact h1 (UInt8.toNat_inj.1 (by rw [h]; rfl))
        · rw [e, drop_at hk, hc]
  · refine ⟨false, k, .far _ rfl (by omega), ?_, ?_, by omega, by omega⟩
    · rw [drop_far (by omega)]; rfl
    · rw [drop_far (by omega)]; rfl
/-- The exponent as the definition counts it. -/
def capE (x : Int) : Int := max x (-100000)
theorem cap0 : (0 : Int) = capE 0 := by decide
theorem ekind_any (S : ByteArray) (q : Nat) : ∃ x en : _, EKind S q x en ∧ x = capE (expL (S.data.toList.drop q)).1 ∧ (S.data.toList.drop q).length + q = (expL (S.data.toList.drop q)).2.length + en := by
  by_cases hq : q < S.size
  · obtain ⟨c, hc⟩ : ∃ c, S[q]'hq = c := ⟨_, rfl⟩
    have hd := drop_at hq
    rw [hc] at hd
    by_cases he : c = 101 ∨ c = 69
    · have he2 : (S[q]'hq).toNat = 101 ∨ (S[q]'hq).toNat = 69 := by
        rw [hc]
        rcases he with rfl | rfl
        · exact Or.inl rfl
        · exact Or.inr rfl
      obtain ⟨b, k, hs, hb, hk, hk1, hk2⟩ := skind_any S (q + 1)
      have hex : expL (c :: S.data.toList.drop (q + 1)) = if (sgnL (S.data.toList.drop (q + 1))).2.takeWhile isD = [] then (0, c :: S.data.toList.drop (q + 1)) else (if (sgnL (S.data.toList.drop (q + 1))).1 = true then -(cntZ ((sgnL (S.data.toList.drop (q + 1))).2.takeWhile isD) 1099511627776 : Int) else (cntZ ((sgnL (S.data.toList.drop (q + 1))).2.takeWhile isD) 100000 : Int), (sgnL (S.data.toList.drop (q + 1))).2.dropWhile isD) := by
        show (if c = 101 ∨ c = 69 then _ else _) = _
        rw [if_pos he]
      rw [hb, hk] at hex
      have hr := dig_run S.data.toList k
      by_cases h0 : (S.data.toList.drop k).takeWhile isD = []
      · rw [if_pos h0] at hex
        have hz : nDig (S.data.toList.drop k) = 0 := by unfold nDig; rw [h0]; rfl
        have hdg := hr.2
        rw [hz, Nat.add_zero] at hdg
        refine ⟨0, q, .bare _ _ (Lib.hid rfl) (Lib.hid rfl) hq he2 b k hs hdg, ?_, ?_⟩
        · rw [hd, hex]; exact cap0
        · rw [hd, hex]
      · rw [if_neg h0] at hex
        obtain ⟨n, hn⟩ : ∃ n, nDig (S.data.toList.drop k) = n := ⟨_, rfl⟩
        have hnp : 0 < n := by rw [← hn]; unfold nDig; exact List.length_pos_iff.2 h0
        have htk := run_take S.data.toList k
        rw [hn] at htk
        refine ⟨_, k + n, .num _ _ hq he2 b k n hs hn hnp (Lib.hid rfl) (Lib.hid rfl), ?_, ?_⟩
        · rw [hd, hex, htk]
          unfold capE cntZ
          cases b with
          | true => rw [if_pos rfl, if_pos rfl]; simp only; omega
          | false => rw [if_neg (by decide), if_neg (by decide)]; simp only; omega
        · have hdr := run_drop S.data.toList k
          rw [hn] at hdr
          have hl := nDig_le (S.data.toList.drop k)
          rw [hn, List.length_drop, ba_len] at hl
          have hks : k ≤ S.size := by
            rcases Nat.lt_or_ge S.size k with h | h
            · omega
            · exact h
          rw [hd, hex, hdr]
          simp only [List.length_cons, List.length_drop, ba_len]
          omega
    · have hex : expL (c :: S.data.toList.drop (q + 1)) = (0, c :: S.data.toList.drop (q + 1)) := by
        show (if c = 101 ∨ c = 69 then _ else _) = _
        rw [if_neg he]
      refine ⟨0, q, .other _ _ (Lib.hid rfl) (Lib.hid rfl) hq ⟨?_, ?_⟩, ?_, ?_⟩
      · rw [hc]; intro h; exact he (Or.inl (UInt8.toNat_inj.1 (by rw [h]; rfl)))
      · rw [hc]; intro h; exact he (Or.inr (UInt8.toNat_inj.1 (by rw [h]; rfl)))
      · rw [hd, hex]; exact cap0
      · rw [hd, hex]
  · refine ⟨0, q, .far _ _ (Lib.hid rfl) (Lib.hid rfl) (by omega), ?_, ?_⟩
    · rw [drop_far (by omega)]; exact cap0
    · rw [drop_far (by omega)]; rfl
/-- The definition's Numeral at a place. -/
theorem rnumeral_any (S : ByteArray) (f : Nat) (w : World) (hs9 : S.size ≤ 4000) (hfl : f ≤ S.size) (X1 X2 : List UInt8) (xe z : Int) (hX : numL (S.data.toList.drop f) = (X1, X2, xe, z)) :
    ∃ en : Nat, (en : Int) = (f : Int) + z ∧ Calls Tryz.prog 29 #[.string S, .int .i64 (f : Int)] w (RNum w (X1 ++ X2) (capE xe - (X2.length : Int)) en) := by
  obtain ⟨a, ha⟩ : ∃ a, nDig (S.data.toList.drop f) = a := ⟨_, rfl⟩
  have htk := run_take S.data.toList f
  have hdr := run_drop S.data.toList f
  rw [ha] at htk hdr
  have hal : f + a ≤ S.size := by
    have := nDig_le (S.data.toList.drop f)
    rw [ha, List.length_drop, ba_len] at this
    omega
  have hlen : (S.data.toList.drop f).length = S.size - f := by rw [List.length_drop, ba_len]
  have htl : ((S.data.toList.drop f).takeWhile isD).length = a := ha
  by_cases hpt : ∃ hq : f + a < S.size, (S[f + a]'hq).toNat = 46
  · obtain ⟨hq, hy⟩ := hpt
    have hc46 : (S[f + a]'hq) = 46 := UInt8.toNat_inj.1 (by rw [hy]; rfl)
    have hd := drop_at hq
    rw [hc46] at hd
    rw [hd] at hdr
    have hP := numP_point hdr
    obtain ⟨p, hp⟩ : ∃ p, f + a + 1 = p := ⟨_, rfl⟩
    rw [hp] at hP
    obtain ⟨b, hb⟩ : ∃ b, nDig (S.data.toList.drop p) = b := ⟨_, rfl⟩
    have htk2 := run_take S.data.toList p
    have hdr2 := run_drop S.data.toList p
    rw [hb] at htk2 hdr2
    have htl2 : ((S.data.toList.drop p).takeWhile isD).length = b := hb
    have hbl : p + b ≤ S.size := by
      have := nDig_le (S.data.toList.drop p)
      rw [hb, List.length_drop, ba_len] at this
      omega
    by_cases hz : a = 0 ∧ b = 0
    · obtain ⟨ha0, hb0⟩ := hz
      have e1 : (S.data.toList.drop f).takeWhile isD = [] := List.length_eq_zero_iff.1 (by omega)
      have e2 : (S.data.toList.drop p).takeWhile isD = [] := List.length_eq_zero_iff.1 (by omega)
      rw [numL_no (by rw [hP]; exact ⟨e1, e2⟩)] at hX
      cases hX
      refine ⟨f, by omega, ?_⟩
      have hdg := (dig_run S.data.toList p).2
      rw [hb, hb0, Nat.add_zero] at hdg
      refine rnum_none S f a w hs9 hfl ha ha0 (Or.inr (Or.inr ⟨by omega, ?_, ?_⟩))
      · subst ha0; exact hy
      · rw [show f + 1 = p by omega]; exact hdg
    · have hne : ¬ ((numP (S.data.toList.drop f)).1 = [] ∧ (numP (S.data.toList.drop f)).2.1 = []) := by
        rw [hP]
        rintro ⟨e1, e2⟩
        have e1 : (S.data.toList.drop f).takeWhile isD = [] := e1
        have e2 : (S.data.toList.drop p).takeWhile isD = [] := e2
        rw [e1] at htl
        rw [e2] at htl2
        exact hz ⟨htl.symm, htl2.symm⟩
      rw [numL_yes hne, hP, hdr2] at hX
      obtain ⟨x, en, hE, hx, hen⟩ := ekind_any S (p + b)
      have q1 : X1 = (S.data.toList.drop f).takeWhile isD := (congrArg Prod.fst hX).symm
      have q2 : X2 = (S.data.toList.drop p).takeWhile isD := (congrArg (fun y => y.2.1) hX).symm
      have q3 : xe = (expL (S.data.toList.drop (p + b))).1 := (congrArg (fun y => y.2.2.1) hX).symm
      have q4 : z = ((S.data.toList.drop f).length : Int) - ((expL (S.data.toList.drop (p + b))).2.length : Int) := (congrArg (fun y => y.2.2.2) hX).symm
      rw [List.length_drop, ba_len] at hen
      refine ⟨en, by rw [q4, hlen]; omega, ?_⟩
      rw [q1, q2, q3, ← hx, ← htk, ← htk2, show x - (((S.data.toList.drop p).take b).length : Int) = -(b : Int) + x by rw [htk2, htl2]; omega]
      by_cases h0 : 0 < a
      · exact rnum_point_some S f a w hs9 hfl ha h0 hq hy p b hp hb x en hE
      · exact rnum_point_no S f a w hs9 hfl ha (by omega) hq hy p b hp hb (by omega) x en hE
  · have hhd : ((S.data.toList.drop f).dropWhile isD).head? ≠ some 46 := by
      rw [hdr]
      intro h
      by_cases hq : f + a < S.size
      · rw [drop_at hq] at h
        exact hpt ⟨hq, by rw [Option.some.inj h]; rfl⟩
      · rw [drop_far (by omega)] at h
        cases h
    have hP := numP_none hhd
    by_cases h0 : 0 < a
    · have hne : ¬ ((numP (S.data.toList.drop f)).1 = [] ∧ (numP (S.data.toList.drop f)).2.1 = []) := by
        rw [hP]
        rintro ⟨e1, -⟩
        have e1 : (S.data.toList.drop f).takeWhile isD = [] := e1
        rw [e1] at htl
        exact absurd htl (by simp; omega)
      rw [numL_yes hne, hP, hdr] at hX
      obtain ⟨x, en, hE, hx, hen⟩ := ekind_any S (f + a)
      have q1 : X1 = (S.data.toList.drop f).takeWhile isD := (congrArg Prod.fst hX).symm
      have q2 : X2 = [] := (congrArg (fun y => y.2.1) hX).symm
      have q3 : xe = (expL (S.data.toList.drop (f + a))).1 := (congrArg (fun y => y.2.2.1) hX).symm
      have q4 : z = ((S.data.toList.drop f).length : Int) - ((expL (S.data.toList.drop (f + a))).2.length : Int) := (congrArg (fun y => y.2.2.2) hX).symm
      rw [List.length_drop, ba_len] at hen
      refine ⟨en, by rw [q4, hlen]; omega, ?_⟩
      rw [q1, q2, q3, ← hx, ← htk, List.append_nil, show x - (([] : List UInt8).length : Int) = 0 + x by simp]
      refine rnum_plain S f a w hs9 hfl ha h0 ?_ x en hE
      by_cases hq : f + a < S.size
      · exact Or.inr ⟨hq, fun h => hpt ⟨hq, h⟩⟩
      · exact Or.inl (by omega)
    · have e1 : (S.data.toList.drop f).takeWhile isD = [] := List.length_eq_zero_iff.1 (by omega)
      rw [numL_no (by rw [hP]; exact ⟨e1, rfl⟩)] at hX
      cases hX
      refine ⟨f, by omega, ?_⟩
      have ha0 : a = 0 := by omega
      subst ha0
      refine rnum_none S f 0 w hs9 hfl ha rfl ?_
      by_cases hq : f < S.size
      · exact Or.inr (Or.inl ⟨hq, fun h => hpt ⟨hq, h⟩⟩)
      · exact Or.inl (by omega)
end Go.Proofs.YtlpobomlnlakcaaGreatDoor

namespace Go.Proofs.YtlpobomlnlakcaaGreatDoor
open Go.RowKit Go.Lib

/-- How many blanks stand ahead. -/
def nb (l : List UInt8) : Nat := (l.takeWhile ([32, 9, 10].contains ·)).length
theorem nb_drop (l : List UInt8) : l.drop (nb l) = noBlanks l := by
  have h : l.takeWhile ([32, 9, 10].contains ·) ++ l.dropWhile ([32, 9, 10].contains ·) = l := List.takeWhile_append_dropWhile
  have e := List.drop_left (l₁ := l.takeWhile ([32, 9, 10].contains ·)) (l₂ := l.dropWhile ([32, 9, 10].contains ·))
  rw [h] at e
  exact e
theorem nb_le (l : List UInt8) : nb l ≤ l.length := (List.takeWhile_prefix _).length_le
theorem nb_at {S : ByteArray} {j : Nat} (hj : j < nb S.data.toList) : ∃ hq : j < S.size, blB (S[j]'hq).toNat = true := by
  have hl := nb_le S.data.toList
  rw [ba_len] at hl
  refine ⟨by omega, ?_⟩
  have h : S.data.toList.takeWhile ([32, 9, 10].contains ·) ++ S.data.toList.dropWhile ([32, 9, 10].contains ·) = S.data.toList := List.takeWhile_append_dropWhile
  have e := List.getElem?_append_left (l₂ := S.data.toList.dropWhile ([32, 9, 10].contains ·)) hj
  rw [h, ba_byte S rfl j (by omega), List.getElem?_eq_getElem hj] at e
  rw [Option.some.inj e, ← blB_contains]
  exact List.all_eq_true.1 (List.all_takeWhile (p := ([32, 9, 10].contains ·)) (l := S.data.toList)) _ (List.getElem_mem hj)
theorem nb_stop {S : ByteArray} (hq : nb S.data.toList < S.size) : blB (S[nb S.data.toList]'hq).toNat = false := by
  have e := nb_drop S.data.toList
  rw [drop_at hq] at e
  rw [← blB_contains]
  exact drop_head e.symm
theorem numL_zero {l : List UInt8} (h : (numL l).2.2.2 = 0) : numL l = ([], [], 0, 0) := by
  by_cases hz : (numP l).1 = [] ∧ (numP l).2.1 = []
  · exact numL_no hz
  · exfalso
    rw [numL_yes hz] at h
    have h : (l.length : Int) - ((expL (numP l).2.2).2.length : Int) = 0 := h
    have hx := (expL_bd (numP l).2.2).2.2
    have hp : (numP l).1.length + (numP l).2.1.length + (numP l).2.2.length ≤ l.length := by
      have e := congrArg List.length (List.takeWhile_append_dropWhile (p := isD) (l := l))
      rw [List.length_append] at e
      unfold numP
      split
      · rename_i r hr
        rw [hr, List.length_cons] at e
        have e2 := congrArg List.length (List.takeWhile_append_dropWhile (p := isD) (l := r))
        rw [List.length_append] at e2
        simp only
        omega
      · simp only [List.length_nil]
        omega
    have : 0 < (numP l).1.length + (numP l).2.1.length := by
      rcases Nat.eq_zero_or_pos ((numP l).1.length + (numP l).2.1.length) with h0 | h0
      · exact absurd ⟨List.length_eq_zero_iff.1 (by omega), List.length_eq_zero_iff.1 (by omega)⟩ hz
      · exact h0
    omega
end Go.Proofs.YtlpobomlnlakcaaGreatDoor

namespace Go.Proofs.YtlpobomlnlakcaaGreatDoor
open Go.RowKit Go.Lib

set_option maxRecDepth 100000 in
set_option maxHeartbeats 4000000 in
theorem rprefix_yes (S : ByteArray) (k i en : Nat) (b : Bool) (w : World) (hs9 : S.size ≤ 3000) (hk : nb S.data.toList = k) (hs : SKind S k b i) (X D : Nat)
    (C : ∀ W, Calls Tryz.prog 29 #[.string S, .int .i64 (i : Int)] W fun e w' => ∃ r, e = .returned (.tuple #[.float .f64 r, .int .i64 (en : Int)]) ∧ Hid (Near X D r) ∧ Below W.heap.size W w') (hen : i < en) (_hen2 : en ≤ 10000) :
    Calls Tryz.prog 11 #[.string S] w (PreEnd b (en : Int) w X D) := by
  have HK := Lib.hid (fun (j : Nat) (hj : j < k) => show ∃ hq : j < S.size, blB (S[j]'hq).toNat = true from nb_at (by rw [hk]; exact hj))
  have hkl : k ≤ S.size := by rw [← hk, ← ba_len]; exact nb_le _
  have HS := Lib.hid (fun (hq : k < S.size) => show blB (S[k]'hq).toNat = false by subst hk; exact nb_stop hq)
  have CN := Lib.hid C
  have hne : ((en : Int) == (i : Int)) = false := by rw [beq_eq_false_iff_ne]; omega
  clear C hk
  go_enter Tryz.func11, Tryz.ntmps11
  go_wp2_with fail
  go_loop [4] (fun iv => ∃ j : Nat, j ≤ k ∧ iv = .int .i64 (j : Int)) (fun iv => k - (RowKit.intOf iv).toNat)
  case atStart => exact ⟨0, by omega, rfl⟩
  case round =>
    obtain ⟨j, hj, rfl⟩ := hrel
    by_cases hlt : j < k
    · obtain ⟨hq, hb⟩ := HK.out j hlt
      obtain ⟨z, hz⟩ : ∃ z, (S[j]'hq).toNat = z := ⟨_, rfl⟩
      have hzi : (((S[j]'hq).toNat : Nat) : Int) = (z : Int) := by rw [hz]
      have hzb : z < 256 := by rw [← hz]; exact UInt8.toNat_lt _
      rw [hz] at hb
      have CB := Lib.hid (fun W => blank_any z W hzb)
      rw [hb] at CB
      have t1 : (j : Int) < (S.size : Int) := by omega
      clear hz hb
      go_wp2_with fail
      refine (CB.out _).mono ?_
      rintro e w' ⟨rfl, rfl⟩
      go_wp2_with fail
      go_round
      case rel => exact ⟨j + 1, by omega, by go_num⟩
      case measure => simp [RowKit.intOf]; omega
    · obtain rfl : k = j := by omega
      cases hs with
      | far _ e h =>
        subst e
        have t1 : ¬ (k : Int) < (S.size : Int) := by omega
        go_wp2_with fail
        refine (CN.out _).mono ?_
        rintro e w2 ⟨r, rfl, hr, hB⟩
        go_wp2_with fail
        go_ret2
        exact ⟨r, rfl, hr, hB⟩
      | other _ e hq h =>
        subst e
        obtain ⟨z, hz⟩ : ∃ z, (S[k]'hq).toNat = z := ⟨_, rfl⟩
        have hzi : (((S[k]'hq).toNat : Nat) : Int) = (z : Int) := by rw [hz]
        have hzb : z < 256 := by rw [← hz]; exact UInt8.toNat_lt _
        have hbl := HS.out hq
        rw [hz] at hbl h
        have CB := Lib.hid (fun W => blank_any z W hzb)
        rw [hbl] at CB
        have t1 : (k : Int) < (S.size : Int) := by omega
        obtain ⟨o1, o2⟩ := h
        have v1 : ((z : Int) == 45) = false := by rw [beq_eq_false_iff_ne]; omega
        have v2 : ((z : Int) == 43) = false := by rw [beq_eq_false_iff_ne]; omega
        clear hz hbl o1 o2
        go_wp2_with fail
        refine (CB.out _).mono ?_
        rintro e w' ⟨rfl, rfl⟩
        go_wp2_with fail
        refine (CN.out _).mono ?_
        rintro e w2 ⟨r, rfl, hr, hB⟩
        go_wp2_with fail
        go_ret2
        exact ⟨r, rfl, hr, hB⟩
      | plus _ e hq h =>
        obtain ⟨ii, hii⟩ : ∃ ii, k + 1 = ii := ⟨_, rfl⟩
        rw [hii] at e
        subst e
        have hk1 : (k : Int) + 1 = (ii : Int) := by omega
        clear hii
        obtain ⟨z, hz⟩ : ∃ z, (S[k]'hq).toNat = z := ⟨_, rfl⟩
        have hzi : (((S[k]'hq).toNat : Nat) : Int) = (z : Int) := by rw [hz]
        have hzb : z < 256 := by rw [← hz]; exact UInt8.toNat_lt _
        have hbl := HS.out hq
        rw [hz] at hbl h
        have CB := Lib.hid (fun W => blank_any z W hzb)
        rw [hbl] at CB
        have t1 : (k : Int) < (S.size : Int) := by omega
        have v1 : ((z : Int) == 45) = false := by rw [beq_eq_false_iff_ne]; omega
        have v2 : ((z : Int) == 43) = true := by rw [beq_iff_eq]; omega
        clear hz hbl h
        go_wp2_with fail
        refine (CB.out _).mono ?_
        rintro e w' ⟨rfl, rfl⟩
        go_wp2_with fail
        refine (CN.out _).mono ?_
        rintro e w2 ⟨r, rfl, hr, hB⟩
        go_wp2_with fail
        go_ret2
        exact ⟨r, rfl, hr, hB⟩
      | minus _ e hq h =>
        obtain ⟨ii, hii⟩ : ∃ ii, k + 1 = ii := ⟨_, rfl⟩
        rw [hii] at e
        subst e
        have hk1 : (k : Int) + 1 = (ii : Int) := by omega
        clear hii
        obtain ⟨z, hz⟩ : ∃ z, (S[k]'hq).toNat = z := ⟨_, rfl⟩
        have hzi : (((S[k]'hq).toNat : Nat) : Int) = (z : Int) := by rw [hz]
        have hzb : z < 256 := by rw [← hz]; exact UInt8.toNat_lt _
        have hbl := HS.out hq
        rw [hz] at hbl h
        have CB := Lib.hid (fun W => blank_any z W hzb)
        rw [hbl] at CB
        have t1 : (k : Int) < (S.size : Int) := by omega
        have v1 : ((z : Int) == 45) = true := by rw [beq_iff_eq]; omega
        have v2 : ((z : Int) == 43) = false := by rw [beq_eq_false_iff_ne]; omega
        clear hz hbl h
        go_wp2_with fail
        refine (CB.out _).mono ?_
        rintro e w' ⟨rfl, rfl⟩
        go_wp2_with fail
        refine (CN.out _).mono ?_
        rintro e w2 ⟨r, rfl, hr, hB⟩
        go_wp2_with (simp only [run_neg])
        go_ret2
        exact ⟨r, rfl, hr, hB⟩
set_option maxRecDepth 100000 in
set_option maxHeartbeats 4000000 in
theorem rprefix_no (S : ByteArray) (k i : Nat) (b : Bool) (w : World) (hs9 : S.size ≤ 3000) (hk : nb S.data.toList = k) (hs : SKind S k b i) (X D : Nat) (hZ : Near X D 0)
    (C : ∀ W, Calls Tryz.prog 29 #[.string S, .int .i64 (i : Int)] W fun e w' => ∃ r, e = .returned (.tuple #[.float .f64 r, .int .i64 (i : Int)]) ∧ Hid (Near X D r) ∧ Below W.heap.size W w') :
    Calls Tryz.prog 11 #[.string S] w (PreEnd false 0 w X D) := by
  have HZ := Lib.hid hZ
  clear hZ
  have HK := Lib.hid (fun (j : Nat) (hj : j < k) => show ∃ hq : j < S.size, blB (S[j]'hq).toNat = true from nb_at (by rw [hk]; exact hj))
  have hkl : k ≤ S.size := by rw [← hk, ← ba_len]; exact nb_le _
  have HS := Lib.hid (fun (hq : k < S.size) => show blB (S[k]'hq).toNat = false by subst hk; exact nb_stop hq)
  have CN := Lib.hid C
  clear C hk
  go_enter Tryz.func11, Tryz.ntmps11
  go_wp2_with fail
  go_loop [4] (fun iv => ∃ j : Nat, j ≤ k ∧ iv = .int .i64 (j : Int)) (fun iv => k - (RowKit.intOf iv).toNat)
  case atStart => exact ⟨0, by omega, rfl⟩
  case round =>
    obtain ⟨j, hj, rfl⟩ := hrel
    by_cases hlt : j < k
    · obtain ⟨hq, hb⟩ := HK.out j hlt
      obtain ⟨z, hz⟩ : ∃ z, (S[j]'hq).toNat = z := ⟨_, rfl⟩
      have hzi : (((S[j]'hq).toNat : Nat) : Int) = (z : Int) := by rw [hz]
      have hzb : z < 256 := by rw [← hz]; exact UInt8.toNat_lt _
      rw [hz] at hb
      have CB := Lib.hid (fun W => blank_any z W hzb)
      rw [hb] at CB
      have t1 : (j : Int) < (S.size : Int) := by omega
      clear hz hb
      go_wp2_with fail
      refine (CB.out _).mono ?_
      rintro e w' ⟨rfl, rfl⟩
      go_wp2_with fail
      go_round
      case rel => exact ⟨j + 1, by omega, by go_num⟩
      case measure => simp [RowKit.intOf]; omega
    · obtain rfl : k = j := by omega
      cases hs with
      | far _ e h =>
        subst e
        have t1 : ¬ (k : Int) < (S.size : Int) := by omega
        go_wp2_with fail
        refine (CN.out _).mono ?_
        rintro e w2 ⟨r, rfl, hr, hB⟩
        go_wp2_with fail
        go_ret2
        exact ⟨0, rfl, HZ, hB⟩
      | other _ e hq h =>
        subst e
        obtain ⟨z, hz⟩ : ∃ z, (S[k]'hq).toNat = z := ⟨_, rfl⟩
        have hzi : (((S[k]'hq).toNat : Nat) : Int) = (z : Int) := by rw [hz]
        have hzb : z < 256 := by rw [← hz]; exact UInt8.toNat_lt _
        have hbl := HS.out hq
        rw [hz] at hbl h
        have CB := Lib.hid (fun W => blank_any z W hzb)
        rw [hbl] at CB
        have t1 : (k : Int) < (S.size : Int) := by omega
        obtain ⟨o1, o2⟩ := h
        have v1 : ((z : Int) == 45) = false := by rw [beq_eq_false_iff_ne]; omega
        have v2 : ((z : Int) == 43) = false := by rw [beq_eq_false_iff_ne]; omega
        clear hz hbl o1 o2
        go_wp2_with fail
        refine (CB.out _).mono ?_
        rintro e w' ⟨rfl, rfl⟩
        go_wp2_with fail
        refine (CN.out _).mono ?_
        rintro e w2 ⟨r, rfl, hr, hB⟩
        go_wp2_with fail
        go_ret2
        exact ⟨0, rfl, HZ, hB⟩
      | plus _ e hq h =>
        obtain ⟨ii, hii⟩ : ∃ ii, k + 1 = ii := ⟨_, rfl⟩
        rw [hii] at e
        subst e
        have hk1 : (k : Int) + 1 = (ii : Int) := by omega
        clear hii
        obtain ⟨z, hz⟩ : ∃ z, (S[k]'hq).toNat = z := ⟨_, rfl⟩
        have hzi : (((S[k]'hq).toNat : Nat) : Int) = (z : Int) := by rw [hz]
        have hzb : z < 256 := by rw [← hz]; exact UInt8.toNat_lt _
        have hbl := HS.out hq
        rw [hz] at hbl h
        have CB := Lib.hid (fun W => blank_any z W hzb)
        rw [hbl] at CB
        have t1 : (k : Int) < (S.size : Int) := by omega
        have v1 : ((z : Int) == 45) = false := by rw [beq_eq_false_iff_ne]; omega
        have v2 : ((z : Int) == 43) = true := by rw [beq_iff_eq]; omega
        clear hz hbl h
        go_wp2_with fail
        refine (CB.out _).mono ?_
        rintro e w' ⟨rfl, rfl⟩
        go_wp2_with fail
        refine (CN.out _).mono ?_
        rintro e w2 ⟨r, rfl, hr, hB⟩
        go_wp2_with fail
        go_ret2
        exact ⟨0, rfl, HZ, hB⟩
      | minus _ e hq h =>
        obtain ⟨ii, hii⟩ : ∃ ii, k + 1 = ii := ⟨_, rfl⟩
        rw [hii] at e
        subst e
        have hk1 : (k : Int) + 1 = (ii : Int) := by omega
        clear hii
        obtain ⟨z, hz⟩ : ∃ z, (S[k]'hq).toNat = z := ⟨_, rfl⟩
        have hzi : (((S[k]'hq).toNat : Nat) : Int) = (z : Int) := by rw [hz]
        have hzb : z < 256 := by rw [← hz]; exact UInt8.toNat_lt _
        have hbl := HS.out hq
        rw [hz] at hbl h
        have CB := Lib.hid (fun W => blank_any z W hzb)
        rw [hbl] at CB
        have t1 : (k : Int) < (S.size : Int) := by omega
        have v1 : ((z : Int) == 45) = true := by rw [beq_iff_eq]; omega
        have v2 : ((z : Int) == 43) = false := by rw [beq_eq_false_iff_ne]; omega
        clear hz hbl h
        go_wp2_with fail
        refine (CB.out _).mono ?_
        rintro e w' ⟨rfl, rfl⟩
        go_wp2_with fail
        refine (CN.out _).mono ?_
        rintro e w2 ⟨r, rfl, hr, hB⟩
        go_wp2_with fail
        go_ret2
        exact ⟨0, rfl, HZ, hB⟩
end Go.Proofs.YtlpobomlnlakcaaGreatDoor

namespace Go.Proofs.YtlpobomlnlakcaaGreatDoor
open Go.RowKit Go.Lib

theorem skind_le {S : ByteArray} {k i : Nat} {b : Bool} (h : SKind S k b i) (hk : k ≤ S.size) : i ≤ S.size := by
  cases h with
  | far _ e h => omega
  | other _ e hq h => omega
  | plus _ e hq h => omega
  | minus _ e hq h => omega
/-- The definition's exponents beyond its bound give nought, as the program's do. -/
theorem near_cap {DS : List UInt8} {xe : Int} {c r r' : Nat} (hd : Dec DS) (hl : DS.length ≤ 8000) (h : Near (2 * (pv DS * 10 ^ (xe - (c : Int)).toNat) * S1074) (10 ^ (-(xe - (c : Int))).toNat) r)
    (h' : Near (2 * (pv DS * 10 ^ (capE xe - (c : Int)).toNat) * S1074) (10 ^ (-(capE xe - (c : Int))).toNat) r') : r' = r := by
  by_cases hx : -100000 ≤ xe
  · have e : capE xe = xe := by unfold capE; omega
    rw [e] at h'
    exact h'.uniq (Nat.pow_pos (by omega)) (Nat.pow_pos (by omega)) rfl h
  · have e : capE xe = -100000 := by unfold capE; omega
    rw [e] at h'
    have h1 := near_low_end (e := xe - (c : Int)) (pv_lt hd) (by omega)
    have h2 := near_low_end (e := -100000 - (c : Int)) (pv_lt hd) (by omega)
    have e1 : r = 0 := h.uniq (Nat.pow_pos (by omega)) (Nat.pow_pos (by omega)) rfl h1
    have e2 : r' = 0 := h'.uniq (Nat.pow_pos (by omega)) (Nat.pow_pos (by omega)) rfl h2
    rw [e1, e2]
theorem rprefix_any (S : ByteArray) (w : World) (hs9 : S.size ≤ 3000) (b : Bool) (X1 X2 : List UInt8) (xe z : Int) (hX : sigL S.data.toList = (b, X1, X2, xe, z)) :
    Calls Tryz.prog 11 #[.string S] w (PreEnd b z w (2 * (pv (X1 ++ X2) * 10 ^ (capE xe - (X2.length : Int)).toNat) * S1074) (10 ^ (-(capE xe - (X2.length : Int))).toNat)) := by
  obtain ⟨k, hk⟩ : ∃ k, nb S.data.toList = k := ⟨_, rfl⟩
  have hkl : k ≤ S.size := by rw [← hk, ← ba_len]; exact nb_le _
  have hnd := nb_drop S.data.toList
  rw [hk] at hnd
  obtain ⟨b', i, hs, hb', hi, hi1, hi2⟩ := skind_any S k
  rw [hnd] at hb' hi
  have hil := skind_le hs hkl
  obtain ⟨Y1, Y2, ye, zz, hY⟩ : ∃ Y1 Y2 ye zz, numL (S.data.toList.drop i) = (Y1, Y2, ye, zz) := ⟨_, _, _, _, rfl⟩
  have hR : sigR S.data.toList = S.data.toList.drop i := hi
  have hbd := numL_bd (S.data.toList.drop i)
  rw [hY, List.length_drop, ba_len] at hbd
  obtain ⟨hz0, hz1⟩ := hbd
  replace hz0 : 0 ≤ zz := hz0
  replace hz1 : zz ≤ ((S.size - i : Nat) : Int) := hz1
  by_cases hz : zz = 0
  · have h0 : (numL (S.data.toList.drop i)).2.2.2 = 0 := by rw [hY]; exact hz
    have hnz := numL_zero h0
    have hsg : sigL S.data.toList = (false, [], [], 0, 0) := by
      unfold sigL
      rw [hR, if_pos h0, hnz]
    rw [hsg] at hX
    cases hX
    rw [hnz] at hY
    cases hY
    refine rprefix_no S k i b' w hs9 hk hs _ _ ?_ (fun W => ?_)
    · have e : 2 * (pv ([] ++ []) * 10 ^ (capE 0 - (([] : List UInt8).length : Int)).toNat) * S1074 = 0 := by rw [List.append_nil, pv_nil, Nat.zero_mul, Nat.mul_zero, Nat.zero_mul]
      rw [e]
      exact near_zero (Nat.pow_pos (by omega))
    · obtain ⟨en, he, h⟩ := rnumeral_any S i W (by omega) hil [] [] 0 0 hnz
      have : en = i := by omega
      subst this
      exact h
  · have h0 : (numL (S.data.toList.drop i)).2.2.2 ≠ 0 := by rw [hY]; exact hz
    have hsg : sigL S.data.toList = (b', Y1, Y2, ye, zz + ((S.data.toList.length : Int) - ((S.data.toList.drop i).length : Int))) := by
      unfold sigL
      rw [hR, if_neg h0, hY, hb']
    rw [hsg, List.length_drop, ba_len] at hX
    cases hX
    obtain ⟨en0, hen0⟩ : ∃ en : Nat, (en : Int) = (i : Int) + zz := ⟨((i : Int) + zz).toNat, by omega⟩
    have hee : zz + ((S.size : Int) - ((S.size - i : Nat) : Int)) = (en0 : Int) := by omega
    rw [hee]
    refine rprefix_yes S k i en0 _ w hs9 hk hs _ _ (fun W => ?_) (by omega) (by omega)
    obtain ⟨en, he, h⟩ := rnumeral_any S i W (by omega) hil _ _ _ _ hY
    have : en = en0 := by omega
    subst this
    exact h
/-- Where the blanks behind a place end. -/
theorem blank_run {S : ByteArray} {z : Nat} (hz : z ≤ S.size) : ∃ K, z ≤ K ∧ K ≤ S.size ∧ (∀ j, z ≤ j → (hj : j < K) → (hq : j < S.size) → blB (S[j]'hq).toNat = true) ∧ (∀ hq : K < S.size, blB (S[K]'hq).toNat = false) ∧ (noBlanks (S.data.toList.drop z)).isEmpty = decide (K = S.size) := by
  obtain ⟨m, hm⟩ : ∃ m, S.size - z = m := ⟨_, rfl⟩
  induction m generalizing z with
  | zero =>
    refine ⟨z, by omega, hz, fun j h1 h2 _ => absurd h1 (by omega), fun hq => absurd hq (by omega), ?_⟩
    rw [drop_far (by omega), decide_eq_true (by omega)]
    rfl
  | succ m ih =>
    have hq : z < S.size := by omega
    cases hb : blB (S[z]'hq).toNat with
    | true =>
      obtain ⟨K, h1, h2, h3, h4, h5⟩ := ih (z := z + 1) (by omega) (by omega)
      refine ⟨K, by omega, h2, fun j a1 a2 a3 => ?_, h4, ?_⟩
      · rcases Nat.eq_or_lt_of_le a1 with e | e
        · subst e; exact hb
        · exact h3 j e a2 a3
      · rw [drop_at hq, noBlanks_step (by rw [blB_contains]; exact hb)]
        exact h5
    | false =>
      refine ⟨z, by omega, hz, fun j h1 h2 _ => absurd h1 (by omega), fun _ => hb, ?_⟩
      rw [drop_at hq, noBlanks_keep (by rw [blB_contains]; exact hb), decide_eq_false (by omega)]
      rfl
set_option maxRecDepth 100000 in
set_option maxHeartbeats 4000000 in
theorem rlooks_any (S : ByteArray) (w : World) (hs9 : S.size ≤ 3000) :
    Calls Tryz.prog 16 #[.string S] w fun e w' => e = .returned (.bool (looksL S.data.toList)) ∧ Below w.heap.size w w' := by
  obtain ⟨b, X1, X2, xe, z, hX⟩ : ∃ b X1 X2 xe z, sigL S.data.toList = (b, X1, X2, xe, z) := ⟨_, _, _, _, _, rfl⟩
  have c1 := rprefix_any S w hs9 b X1 X2 xe z hX
  have hb := sigL_bd S.data.toList
  rw [hX, ba_len] at hb
  obtain ⟨-, -, -, -, hz0, hz1⟩ := hb
  replace hz0 : 0 ≤ z := hz0
  replace hz1 : z ≤ (S.size : Int) := hz1
  obtain ⟨m, rfl⟩ : ∃ m : Nat, z = (m : Int) := ⟨z.toNat, by omega⟩
  have hlk : looksL S.data.toList = (decide (0 < (m : Int)) && (noBlanks (S.data.toList.drop m)).isEmpty) := by
    unfold looksL
    rw [hX]
    rfl
  rw [hlk]
  obtain ⟨X, hXX⟩ : ∃ X, 2 * (pv (X1 ++ X2) * 10 ^ (capE xe - (X2.length : Int)).toNat) * S1074 = X := ⟨_, rfl⟩
  obtain ⟨D, hDD⟩ : ∃ D, 10 ^ (-(capE xe - (X2.length : Int))).toNat = D := ⟨_, rfl⟩
  rw [hXX, hDD] at c1
  have C1 := Lib.hid c1
  clear c1 hX hXX hDD hlk hz0
  by_cases h0 : m = 0
  · subst h0
    rw [show decide ((0 : Int) < ((0 : Nat) : Int)) = false from rfl, Bool.false_and]
    go_enter Tryz.func16, Tryz.ntmps16
    go_wp2_with fail
    refine C1.out.mono ?_
    rintro e w1 ⟨r, rfl, hr, hB⟩
    go_wp2_with fail
    go_ret
    exact ⟨rfl, hB⟩
  · rw [decide_eq_true (by omega), Bool.true_and]
    obtain ⟨K, k1, k2, k3, k4, k5⟩ := blank_run (S := S) (z := m) (by omega)
    rw [k5]
    have H3 := Lib.hid k3
    have H4 := Lib.hid k4
    have hm0 : ((m : Int) == 0) = false := by rw [beq_eq_false_iff_ne]; omega
    clear k3 k4 k5 h0
    go_enter Tryz.func16, Tryz.ntmps16
    go_wp2_with fail
    refine C1.out.mono ?_
    rintro e w1 ⟨r, rfl, hr, hB⟩
    go_wp2_with fail
    go_loop [5] (fun iv => ∃ j : Nat, m ≤ j ∧ j ≤ K ∧ iv = .int .i64 (j : Int)) (fun iv => K - (RowKit.intOf iv).toNat)
    case atStart => exact ⟨m, by omega, by omega, rfl⟩
    case round =>
      obtain ⟨j, hj1, hj2, rfl⟩ := hrel
      by_cases hlt : j < K
      · have hq : j < S.size := by omega
        have hbl := H3.out j hj1 hlt hq
        obtain ⟨y, hy⟩ : ∃ y, (S[j]'hq).toNat = y := ⟨_, rfl⟩
        have hyi : (((S[j]'hq).toNat : Nat) : Int) = (y : Int) := by rw [hy]
        have hyb : y < 256 := by rw [← hy]; exact UInt8.toNat_lt _
        rw [hy] at hbl
        have CB := Lib.hid (fun W => blank_any y W hyb)
        rw [hbl] at CB
        have t1 : (j : Int) < (S.size : Int) := by omega
        clear hy hbl
        go_wp2_with fail
        refine (CB.out _).mono ?_
        rintro e w' ⟨rfl, rfl⟩
        go_wp2_with fail
        go_round
        case rel => exact ⟨j + 1, by omega, by omega, by go_num⟩
        case measure => simp [RowKit.intOf]; omega
      · obtain rfl : K = j := by omega
        by_cases hq : K < S.size
        · have hbl := H4.out hq
          obtain ⟨y, hy⟩ : ∃ y, (S[K]'hq).toNat = y := ⟨_, rfl⟩
          have hyi : (((S[K]'hq).toNat : Nat) : Int) = (y : Int) := by rw [hy]
          have hyb : y < 256 := by rw [← hy]; exact UInt8.toNat_lt _
          rw [hy] at hbl
          have CB := Lib.hid (fun W => blank_any y W hyb)
          rw [hbl] at CB
          have t1 : (K : Int) < (S.size : Int) := by omega
          have HF := Lib.hid (show decide (K = S.size) = false from decide_eq_false (by omega))
          clear hy hbl
          go_wp2_with fail
          refine (CB.out _).mono ?_
          rintro e w' ⟨rfl, rfl⟩
          go_wp2_with fail
          go_ret
          exact ⟨by rw [HF.out]; rfl, hB⟩
        · have t1 : ¬ (K : Int) < (S.size : Int) := by omega
          have HF := Lib.hid (show decide (K = S.size) = true from decide_eq_true (by omega))
          go_wp2_with fail
          go_ret
          exact ⟨by rw [HF.out]; rfl, hB⟩
end Go.Proofs.YtlpobomlnlakcaaGreatDoor

namespace Go.Proofs.YtlpobomlnlakcaaGreatDoor
open Go.RowKit Go.Lib

theorem hexI_yes {c : Nat} (h : hexB c = true) : hexI c = (hexR c : Int) := by unfold hexI; rw [if_pos h]
theorem hexI_no {c : Nat} (h : hexB c = false) : hexI c = -1 := by unfold hexI; rw [h]; rfl
/-- The run of digits of base sixteen by its places. -/
structure HexRun (S : ByteArray) (c : Nat) : Prop where
  pos : 0 < c
  top : c ≤ 13
  len : 2 + c ≤ S.size
  b0 : ∀ hq : 0 < S.size, (S[0]'hq).toNat = 48
  b1 : ∀ hq : 1 < S.size, (S[1]'hq).toNat = 120 ∨ (S[1]'hq).toNat = 88
  at_ : ∀ j, j < c → ∀ hq : 2 + j < S.size, hexB (S[2 + j]'hq).toNat = true
  stop : c = 13 ∨ ∀ hq : 2 + c < S.size, hexB (S[2 + c]'hq).toNat = false
  is : hexP S.data.toList = (S.data.toList.drop 2).take c
theorem hexrun_any {S : ByteArray} (h : hexP S.data.toList ≠ []) : ∃ c, HexRun S c := by
  obtain ⟨l, hl⟩ : ∃ l, S.data.toList = l := ⟨_, rfl⟩
  have hlen : l.length = S.size := by rw [← hl, ba_len]
  have hby := fun j hj => ba_byte S hl j hj
  rw [hl] at h
  match l, h, hl, hlen, hby with
  | a :: c0 :: t, h, hl, hlen, hby =>
    have hP : hexP (a :: c0 :: t) = if a = 48 ∧ (c0 = 120 ∨ c0 = 88) then (t.take 13).takeWhile isH else [] := rfl
    by_cases hc : a = 48 ∧ (c0 = 120 ∨ c0 = 88)
    · rw [if_pos hc] at hP
      obtain ⟨c, hcc⟩ : ∃ c, ((t.take 13).takeWhile isH).length = c := ⟨_, rfl⟩
      rw [hP] at h
      have hpos : 0 < c := by rw [← hcc]; exact List.length_pos_iff.2 h
      have hle := (List.takeWhile_prefix isH (l := t.take 13)).length_le
      rw [hcc, List.length_take] at hle
      rw [List.length_cons, List.length_cons] at hlen
      have htk : (t.take 13).takeWhile isH = t.take c := by
        have e := List.takeWhile_append_dropWhile (p := isH) (l := t.take 13)
        have e2 := List.take_left (l₁ := (t.take 13).takeWhile isH) (l₂ := (t.take 13).dropWhile isH)
        rw [e, hcc, List.take_take, Nat.min_eq_left (by omega)] at e2
        exact e2.symm
      have hS : ∀ j (hq : 2 + j < S.size), ∃ hj : j < t.length, S[2 + j]'hq = t[j] := fun j hq => by
        have hj : j < t.length := by omega
        refine ⟨hj, ?_⟩
        have e := hby (2 + j) hq
        have e3 : (a :: c0 :: t)[2 + j]? = t[j]? := by
          rw [show 2 + j = j + 1 + 1 by omega]
          rfl
        rw [e3, List.getElem?_eq_getElem hj] at e
        exact (Option.some.inj e).symm
      refine ⟨c, hpos, by omega, by omega, fun hq => ?_, fun hq => ?_, fun j hj hq => ?_, ?_, ?_⟩
      · have e := Option.some.inj (hby 0 hq)
        rw [← e]
        show a.toNat = 48
        rw [hc.1]; rfl
      · have e := Option.some.inj (hby 1 hq)
        rw [← e]
        show c0.toNat = 120 ∨ c0.toNat = 88
        rcases hc.2 with h | h
        · left; rw [h]; rfl
        · right; rw [h]; rfl
      · obtain ⟨hjt, e⟩ := hS j hq
        rw [e]
        have hj2 : j < ((t.take 13).takeWhile isH).length := by rw [hcc]; exact hj
        have h1 : ((t.take 13).takeWhile isH)[j]? = t[j]? := by rw [htk, List.getElem?_take, if_pos hj]
        rw [List.getElem?_eq_getElem hj2, List.getElem?_eq_getElem hjt] at h1
        rw [← Option.some.inj h1]
        exact List.all_eq_true.1 (List.all_takeWhile (p := isH) (l := t.take 13)) _ (List.getElem_mem hj2)
      · by_cases h13 : c = 13
        · exact Or.inl h13
        · right
          intro hq
          obtain ⟨hjt, e⟩ := hS c hq
          rw [e]
          have e := List.takeWhile_append_dropWhile (p := isH) (l := t.take 13)
          have e2 := List.drop_left (l₁ := (t.take 13).takeWhile isH) (l₂ := (t.take 13).dropWhile isH)
          rw [e, hcc] at e2
          have hc13 : c < (t.take 13).length := by rw [List.length_take]; omega
          rw [List.drop_eq_getElem_cons hc13, List.getElem_take] at e2
          exact drop_head e2.symm
      · rw [hl, hP, htk]
        rfl
    · rw [hP, if_neg hc] at h
      exact absurd rfl h
  | [_], h, _, _, _ => exact absurd rfl h
  | [], h, _, _, _ => exact absurd rfl h
set_option maxRecDepth 100000 in
set_option maxHeartbeats 4000000 in
theorem rliteral_hex (S : ByteArray) (w : World) (hs9 : S.size ≤ 3000) (h : hexP S.data.toList ≠ []) :
    Calls Tryz.prog 13 #[.string S] w (HexEnd w S.data.toList) := by
  obtain ⟨c, HR⟩ := hexrun_any h
  have hcl : ((S.data.toList.drop 2).take c).length = c := by
    have := HR.len
    rw [List.length_take, List.length_drop, ba_len]
    omega
  have hE := hex_ends HR.is hcl
  have hc0 : ¬ c = 0 := by have := HR.pos; omega
  rw [if_neg hc0, if_neg hc0] at hE
  have HE := Lib.hid hE
  have hpos := HR.pos
  have htop := HR.top
  have hlen := HR.len
  have hs0 : 0 < S.size := by omega
  have hs1 : 1 < S.size := by omega
  have hs2 : 2 < S.size := by omega
  have hzi0 : (((S[0]'hs0).toNat : Nat) : Int) = 48 := by rw [HR.b0 hs0]; rfl
  obtain ⟨z1, hz1⟩ : ∃ z, (S[1]'hs1).toNat = z := ⟨_, rfl⟩
  have hzi1 : (((S[1]'hs1).toNat : Nat) : Int) = (z1 : Int) := by rw [hz1]
  have hb1 := HR.b1 hs1
  rw [hz1] at hb1
  have hZ : ((z1 : Int) == 120) = true ∨ (((z1 : Int) == 120) = false ∧ ((z1 : Int) == 88) = true) := by
    rcases hb1 with h | h
    · left; rw [beq_iff_eq]; omega
    · right; rw [beq_eq_false_iff_ne, beq_iff_eq]; omega
  obtain ⟨z2, hz2⟩ : ∃ z, (S[2]'hs2).toNat = z := ⟨_, rfl⟩
  have hzi2 : (((S[2]'hs2).toNat : Nat) : Int) = (z2 : Int) := by rw [hz2]
  have hz2b : z2 < 256 := by rw [← hz2]; exact UInt8.toNat_lt _
  have hx2 := HR.at_ 0 hpos hs2
  have hx2 : hexB z2 = true := by rw [← hz2]; exact hx2
  have CX := Lib.hid (fun W => rhex_any z2 W hz2b)
  rw [hexI_yes hx2] at CX
  have hl2 : (2 : Int) < (S.size : Int) := by omega
  have HRR := Lib.hid HR
  have CH := Lib.hid (fun (z : Nat) (hz : z < 256) W => rhex_any z W hz)
  have hx20 : (0 : Int) ≤ (hexR z2 : Int) := by omega
  obtain ⟨d2, hd2⟩ : ∃ d, hexR z2 = d := ⟨_, rfl⟩
  rw [hd2] at CX hx20
  clear hE hcl hz1 hb1 hz2 hx2 HR h hc0 hd2
  rcases hZ with g1 | ⟨g1, g2⟩
  all_goals
    go_enter Tryz.func13, Tryz.ntmps13
    go_wp2_with fail
    refine (CX.out _).mono ?_
    rintro e w' ⟨rfl, rfl⟩
    go_wp2_with fail
    go_loop [4, 5] (fun nv iv => ∃ k n m : Nat, k ≤ c ∧ m = 2 + k ∧ iv = .int .i64 (m : Int) ∧ nv = .int .i64 (n : Int) ∧ n = hvl ((S.data.toList.drop 2).take k)) (fun _ iv => 2 + c - (RowKit.intOf iv).toNat)
    case atStart => exact ⟨0, 0, 2, by omega, by omega, rfl, rfl, rfl⟩
    case round =>
      obtain ⟨k, n, m, hk, hm, rfl, rfl, hn⟩ := hrel
      have hn2 : n < 4503599627370496 := by
        have h1 := hvl_lt _ ((S.data.toList.drop 2).take k) rfl
        rw [← hn] at h1
        refine Nat.lt_of_lt_of_le h1 (Nat.le_trans (Nat.pow_le_pow_right (by omega) ?_) (show 16 ^ 13 ≤ 4503599627370496 by decide))
        rw [List.length_take]
        omega
      have HN := Lib.hid hn
      have HM := Lib.hid hm
      clear hn
      by_cases hlt : k < c
      · have hms : m < S.size := by omega
        have hhx : hexB (S[m]'hms).toNat = true := by subst hm; exact HRR.out.at_ k hlt hms
        obtain ⟨z, hz⟩ : ∃ z, (S[m]'hms).toNat = z := ⟨_, rfl⟩
        have hzi : (((S[m]'hms).toNat : Nat) : Int) = (z : Int) := by rw [hz]
        have hzb : z < 256 := by rw [← hz]; exact UInt8.toNat_lt _
        rw [hz] at hhx
        have CZ := Lib.hid (CH.out z hzb)
        rw [hexI_yes hhx] at CZ
        have HNX := Lib.hid (show n * 16 + hexR z = hvl ((S.data.toList.drop 2).take (k + 1)) by
          have hl : 2 + k < S.data.toList.length := by rw [ba_len, ← hm]; exact hms
          have hb := ba_byte S rfl m hms
          have e : S.data.toList[2 + k] = S[m]'hms := by
            subst hm
            rw [List.getElem?_eq_getElem hl] at hb
            exact Option.some.inj hb
          rw [run_snoc hl, e, hvl_snoc, hz, HN.out])
        have hrl := hexR_lt z
        obtain ⟨d, hd⟩ : ∃ d, hexR z = d := ⟨_, rfl⟩
        rw [hd] at CZ HNX hrl
        have hd0 : (0 : Int) ≤ (d : Int) := by omega
        have t1 : (m : Int) < (S.size : Int) := by omega
        have t2 : (m : Int) < 15 := by omega
        have hsum : 16 * (n : Int) + (d : Int) = ((n * 16 + d : Nat) : Int) := by omega
        have HSUM := Lib.hid hsum
        clear hz hhx hd hsum hm
        go_wp2_with fail
        refine (CZ.out _).mono ?_
        rintro e w' ⟨rfl, rfl⟩
        go_wp2_with fail
        refine (CZ.out _).mono ?_
        rintro e w' ⟨rfl, rfl⟩
        go_wp2_with fail
        go_round
        case rel => exact ⟨k + 1, n * 16 + d, m + 1, by omega, by rw [HM.out]; omega, by go_num, congrArg (Value.int .i64) HSUM.out, HNX.out⟩
        case measure =>
          have := HM.out
          simp [RowKit.intOf]
          omega
      · obtain rfl : c = k := by omega
        have hfl := float_nat (m := n) (by omega)
        have HF := Lib.hid (show hexF S.data.toList = fw n ∧ (hexS S.data.toList : Nat) = m by rw [HE.out.1, HE.out.2, ← HN.out]; exact ⟨rfl, hm.symm⟩)
        rcases (by omega : S.size ≤ m ∨ (m < S.size ∧ c = 13) ∨ (m < S.size ∧ ¬ c = 13)) with hfar | ⟨hms, h13⟩ | ⟨hms, h13⟩
        · have t1 : ¬ (m : Int) < (S.size : Int) := by omega
          clear hm
          go_wp2_with fail
          go_ret2
          exact ⟨by rw [HF.out.1, HF.out.2]; rfl, rfl⟩
        · have t1 : (m : Int) < (S.size : Int) := by omega
          have t2 : ¬ (m : Int) < 15 := by omega
          clear hm h13
          go_wp2_with fail
          go_ret2
          exact ⟨by rw [HF.out.1, HF.out.2]; rfl, rfl⟩
        · have hhx : hexB (S[m]'hms).toNat = false := by
            subst hm
            exact (HRR.out.stop.resolve_left h13) hms
          obtain ⟨z, hz⟩ : ∃ z, (S[m]'hms).toNat = z := ⟨_, rfl⟩
          have hzi : (((S[m]'hms).toNat : Nat) : Int) = (z : Int) := by rw [hz]
          have hzb : z < 256 := by rw [← hz]; exact UInt8.toNat_lt _
          rw [hz] at hhx
          have CZ := Lib.hid (CH.out z hzb)
          rw [hexI_no hhx] at CZ
          have t1 : (m : Int) < (S.size : Int) := by omega
          have t2 : (m : Int) < 15 := by omega
          clear hm h13 hz hhx
          go_wp2_with fail
          refine (CZ.out _).mono ?_
          rintro e w' ⟨rfl, rfl⟩
          go_wp2_with fail
          go_ret2
          exact ⟨by rw [HF.out.1, HF.out.2]; rfl, rfl⟩
end Go.Proofs.YtlpobomlnlakcaaGreatDoor

namespace Go.Proofs.YtlpobomlnlakcaaGreatDoor
open Go.RowKit Go.Lib

/-- Why a text has no number of base sixteen ahead. -/
theorem nohex {S : ByteArray} (h : hexP S.data.toList = []) : S.size ≤ 2 ∨ (2 < S.size ∧ ∀ hq : 0 < S.size, (S[0]'hq).toNat ≠ 48) ∨ (2 < S.size ∧ (∀ hq : 0 < S.size, (S[0]'hq).toNat = 48) ∧ ∀ hq : 1 < S.size, (S[1]'hq).toNat ≠ 120 ∧ (S[1]'hq).toNat ≠ 88) ∨
    (2 < S.size ∧ (∀ hq : 0 < S.size, (S[0]'hq).toNat = 48) ∧ (∀ hq : 1 < S.size, (S[1]'hq).toNat = 120 ∨ (S[1]'hq).toNat = 88) ∧ ∀ hq : 2 < S.size, hexB (S[2]'hq).toNat = false) := by
  obtain ⟨l, hl⟩ : ∃ l, S.data.toList = l := ⟨_, rfl⟩
  have hlen : l.length = S.size := by rw [← hl, ba_len]
  have hby := fun j hj => ba_byte S hl j hj
  rw [hl] at h
  by_cases h2 : S.size ≤ 2
  · exact Or.inl h2
  · right
    match l, h, hlen, hby with
    | a :: c0 :: d :: t, h, hlen, hby =>
      have e0 := Option.some.inj (hby 0 (by omega))
      have e1 := Option.some.inj (hby 1 (by omega))
      have e2 := Option.some.inj (hby 2 (by omega))
      replace e0 : a = S[0] := e0
      replace e1 : c0 = S[1] := e1
      replace e2 : d = S[2] := e2
      by_cases ha : a = 48
      · by_cases hc : c0 = 120 ∨ c0 = 88
        · right; right
          refine ⟨by omega, fun _ => by rw [← e0, ha]; rfl, fun _ => ?_, fun _ => ?_⟩
          · rw [← e1]
            rcases hc with h | h
            · left; rw [h]; rfl
            · right; rw [h]; rfl
          · rw [← e2]
            have hP : hexP (a :: c0 :: d :: t) = ((d :: t).take 13).takeWhile isH := by
              show (if a = 48 ∧ (c0 = 120 ∨ c0 = 88) then _ else _) = _
              rw [if_pos ⟨ha, hc⟩]
            rw [hP] at h
            have h3 : (d :: t).take 13 = d :: t.take 12 := rfl
            rw [h3, List.takeWhile_cons] at h
            cases hx : isH d with
            | false => exact hx
            | true => rw [hx, if_pos rfl] at h; cases h
        · right; left
          refine ⟨by omega, fun _ => by rw [← e0, ha]; rfl, fun _ => ⟨?_, ?_⟩⟩
          · rw [← e1]; intro h; exact hc (Or.inl (UInt8.toNat_inj.1 (by rw [h]; rfl)))
          · rw [← e1]; intro h; exact hc (Or.inr (UInt8.toNat_inj.1 (by rw [h]; rfl)))
      · left
        refine ⟨by omega, fun _ => ?_⟩
        rw [← e0]; intro h; exact ha (UInt8.toNat_inj.1 (by rw [h]; rfl))
    | [_, _], _, hlen, _ => simp at hlen; omega
    | [_], _, hlen, _ => simp at hlen; omega
    | [], _, hlen, _ => simp at hlen; omega
set_option maxRecDepth 100000 in
set_option maxHeartbeats 4000000 in
theorem rliteral_num (S : ByteArray) (w : World) (hs9 : S.size ≤ 3000) (h : hexP S.data.toList = []) (X1 X2 : List UInt8) (xe z : Int) (hX : numL S.data.toList = (X1, X2, xe, z)) :
    Calls Tryz.prog 13 #[.string S] w (PreEnd false z w (2 * (pv (X1 ++ X2) * 10 ^ (capE xe - (X2.length : Int)).toNat) * S1074) (10 ^ (-(capE xe - (X2.length : Int))).toNat)) := by
  have hb := (numL_bd S.data.toList).1
  rw [hX] at hb
  replace hb : 0 ≤ z := hb
  obtain ⟨m, rfl⟩ : ∃ m : Nat, z = (m : Int) := ⟨z.toNat, by omega⟩
  have hn := nohex h
  obtain ⟨X, hXX⟩ : ∃ X, 2 * (pv (X1 ++ X2) * 10 ^ (capE xe - (X2.length : Int)).toNat) * S1074 = X := ⟨_, rfl⟩
  obtain ⟨D, hDD⟩ : ∃ D, 10 ^ (-(capE xe - (X2.length : Int))).toNat = D := ⟨_, rfl⟩
  have C : ∀ W, Calls Tryz.prog 29 #[.string S, .int .i64 0] W fun e w' => ∃ r, e = .returned (.tuple #[.float .f64 r, .int .i64 (m : Int)]) ∧ Hid (Near X D r) ∧ Below W.heap.size W w' := fun W => by
    obtain ⟨en, he, hc⟩ := rnumeral_any S 0 W (by omega) (by omega) X1 X2 xe (m : Int) (by rw [List.drop_zero]; exact hX)
    have : en = m := by omega
    subst this
    unfold RNum at hc
    rw [hXX, hDD] at hc
    exact hc
  rw [hXX, hDD]
  have CN := Lib.hid C
  have CH := Lib.hid (fun (z : Nat) (hz : z < 256) W => rhex_any z W hz)
  clear C hXX hDD hX h hb
  rcases hn with h1 | ⟨h1, h2⟩ | ⟨h1, h2, h3⟩ | ⟨h1, h2, h3, h4⟩
  · have t1 : ¬ (2 : Int) < (S.size : Int) := by omega
    go_enter Tryz.func13, Tryz.ntmps13
    go_wp2_with fail
    refine (CN.out _).mono ?_
    rintro e w1 ⟨r, rfl, hr, hB⟩
    go_wp2_with fail
    go_ret2
    exact ⟨r, rfl, hr, hB⟩
  · have t1 : (2 : Int) < (S.size : Int) := by omega
    have hs0 : 0 < S.size := by omega
    obtain ⟨z0, hz0⟩ : ∃ z, (S[0]'hs0).toNat = z := ⟨_, rfl⟩
    have hzi0 : (((S[0]'hs0).toNat : Nat) : Int) = (z0 : Int) := by rw [hz0]
    have hne := h2 hs0
    rw [hz0] at hne
    have u0 : ((z0 : Int) == 48) = false := by rw [beq_eq_false_iff_ne]; omega
    clear h2 hz0 hne
    go_enter Tryz.func13, Tryz.ntmps13
    go_wp2_with fail
    refine (CN.out _).mono ?_
    rintro e w1 ⟨r, rfl, hr, hB⟩
    go_wp2_with fail
    go_ret2
    exact ⟨r, rfl, hr, hB⟩
  · have t1 : (2 : Int) < (S.size : Int) := by omega
    have hs0 : 0 < S.size := by omega
    have hs1 : 1 < S.size := by omega
    have hzi0 : (((S[0]'hs0).toNat : Nat) : Int) = 48 := by rw [h2 hs0]; rfl
    obtain ⟨z1, hz1⟩ : ∃ z, (S[1]'hs1).toNat = z := ⟨_, rfl⟩
    have hzi1 : (((S[1]'hs1).toNat : Nat) : Int) = (z1 : Int) := by rw [hz1]
    have hne := h3 hs1
    rw [hz1] at hne
    obtain ⟨n1, n2⟩ := hne
    have u1 : ((z1 : Int) == 120) = false := by rw [beq_eq_false_iff_ne]; omega
    have u2 : ((z1 : Int) == 88) = false := by rw [beq_eq_false_iff_ne]; omega
    clear h2 h3 hz1 n1 n2
    go_enter Tryz.func13, Tryz.ntmps13
    go_wp2_with fail
    refine (CN.out _).mono ?_
    rintro e w1 ⟨r, rfl, hr, hB⟩
    go_wp2_with fail
    go_ret2
    exact ⟨r, rfl, hr, hB⟩
  · have t1 : (2 : Int) < (S.size : Int) := by omega
    have hs0 : 0 < S.size := by omega
    have hs1 : 1 < S.size := by omega
    have hs2 : 2 < S.size := by omega
    have hzi0 : (((S[0]'hs0).toNat : Nat) : Int) = 48 := by rw [h2 hs0]; rfl
    obtain ⟨z1, hz1⟩ : ∃ z, (S[1]'hs1).toNat = z := ⟨_, rfl⟩
    have hzi1 : (((S[1]'hs1).toNat : Nat) : Int) = (z1 : Int) := by rw [hz1]
    have hb1 := h3 hs1
    rw [hz1] at hb1
    have hZ : ((z1 : Int) == 120) = true ∨ (((z1 : Int) == 120) = false ∧ ((z1 : Int) == 88) = true) := by
      rcases hb1 with h | h
      · left; rw [beq_iff_eq]; omega
      · right; rw [beq_eq_false_iff_ne, beq_iff_eq]; omega
    obtain ⟨z2, hz2⟩ : ∃ z, (S[2]'hs2).toNat = z := ⟨_, rfl⟩
    have hzi2 : (((S[2]'hs2).toNat : Nat) : Int) = (z2 : Int) := by rw [hz2]
    have hz2b : z2 < 256 := by rw [← hz2]; exact UInt8.toNat_lt _
    have hx := h4 hs2
    rw [hz2] at hx
    have CX := Lib.hid (CH.out z2 hz2b)
    rw [hexI_no hx] at CX
    clear h2 h3 h4 hz1 hb1 hz2 hx
    rcases hZ with g1 | ⟨g1, g2⟩
    all_goals
      go_enter Tryz.func13, Tryz.ntmps13
      go_wp2_with fail
      refine (CX.out _).mono ?_
      rintro e w' ⟨rfl, rfl⟩
      go_wp2_with fail
      refine (CN.out _).mono ?_
      rintro e w1 ⟨r, rfl, hr, hB⟩
      go_wp2_with fail
      go_ret2
      exact ⟨r, rfl, hr, hB⟩
theorem turned_lt {b : Bool} {r : Nat} (h : r ≤ 9218868437227405312) : turned b r < 18446744073709551616 := by
  cases b with
  | false => show r < _; omega
  | true =>
    show Op.negFloat .f64 r < _
    rw [neg_pos (by omega)]
    omega
/-- Two calls that give the same float and the same number. -/
def Twin (S : ByteArray) (F G : FuncId) : Prop := ∃ (x : Nat) (z : Int), x < 18446744073709551616 ∧ (∀ W, Calls Tryz.prog F #[.string S] W fun e w' => e = .returned (.tuple #[.float .f64 x, .int .i64 z]) ∧ Below W.heap.size W w') ∧ (∀ W, Calls Tryz.prog G #[.string S] W fun e w' => e = .returned (.tuple #[.float .f64 x, .int .i64 z]) ∧ Below W.heap.size W w')
end Go.Proofs.YtlpobomlnlakcaaGreatDoor

namespace Go.Proofs.YtlpobomlnlakcaaGreatDoor
open Go.RowKit Go.Lib

theorem same_self (x : Nat) (w : World) (hx : x < 18446744073709551616) : Calls Tryz.prog 14 #[.float .f64 x, .float .f64 x] w fun e w' => e = .returned (.bool true) ∧ w = w' := same_true x x w hx hx rfl
set_option maxRecDepth 100000 in
set_option maxHeartbeats 4000000 in
theorem numTexts_num (S : ByteArray) (w : World) (hs9 : S.size ≤ 3000) (hh : hexP S.data.toList = []) (hT : PowTab w) :
    Calls Tryz.prog 3 #[.string S] w fun e w' => e = .returned (.bool true) ∧ Below w.heap.size w w' := by
  have CF := Lib.hid (nfixed_any w hT)
  obtain ⟨b, X1, X2, xe, z, hX⟩ : ∃ b X1 X2 xe z, sigL S.data.toList = (b, X1, X2, xe, z) := ⟨_, _, _, _, _, rfl⟩
  have c1 := fun W => prefix_any S W (by omega) b X1 X2 xe z hX
  have c2 := fun W => rprefix_any S W hs9 b X1 X2 xe z hX
  have hb := sigL_bd S.data.toList
  rw [hX, ba_len] at hb
  obtain ⟨hd, hl, -⟩ := hb
  replace hd : Dec (X1 ++ X2) := hd
  replace hl : X1.length + X2.length ≤ S.size := hl
  have HC := Lib.hid (fun r r' h h' => near_cap (r := r) (r' := r') (xe := xe) (c := X2.length) hd (by rw [List.length_append]; omega) h h')
  obtain ⟨Y1, Y2, ye, y, hY⟩ : ∃ Y1 Y2 ye y, numL S.data.toList = (Y1, Y2, ye, y) := ⟨_, _, _, _, rfl⟩
  have c3 := fun W => literal_num S W (by omega) hh Y1 Y2 ye y hY
  have c4 := fun W => rliteral_num S W hs9 hh Y1 Y2 ye y hY
  have hb2 := numL_dec S.data.toList
  rw [hY, ba_len] at hb2
  obtain ⟨hd2, hl2, -⟩ := hb2
  replace hd2 : Dec (Y1 ++ Y2) := hd2
  replace hl2 : Y1.length + Y2.length ≤ S.size := hl2
  have HC2 := Lib.hid (fun r r' h h' => near_cap (r := r) (r' := r') (xe := ye) (c := Y2.length) hd2 (by rw [List.length_append]; omega) h h')
  have c5 := fun W => looks_any S W (by omega)
  have c6 := fun W => rlooks_any S W hs9
  obtain ⟨B, hB⟩ : ∃ B, looksL S.data.toList = B := ⟨_, rfl⟩
  rw [hB] at c5 c6
  obtain ⟨XA, hXA⟩ : ∃ X, 2 * (pv (X1 ++ X2) * 10 ^ (xe - (X2.length : Int)).toNat) * S1074 = X := ⟨_, rfl⟩
  obtain ⟨DA, hDA⟩ : ∃ D, 10 ^ (-(xe - (X2.length : Int))).toNat = D := ⟨_, rfl⟩
  obtain ⟨XB, hXB⟩ : ∃ X, 2 * (pv (X1 ++ X2) * 10 ^ (capE xe - (X2.length : Int)).toNat) * S1074 = X := ⟨_, rfl⟩
  obtain ⟨DB, hDB⟩ : ∃ D, 10 ^ (-(capE xe - (X2.length : Int))).toNat = D := ⟨_, rfl⟩
  rw [hXA, hDA] at c1
  rw [hXB, hDB] at c2
  rw [hXA, hDA, hXB, hDB] at HC
  obtain ⟨XC, hXC⟩ : ∃ X, 2 * (pv (Y1 ++ Y2) * 10 ^ (ye - (Y2.length : Int)).toNat) * S1074 = X := ⟨_, rfl⟩
  obtain ⟨DC, hDC⟩ : ∃ D, 10 ^ (-(ye - (Y2.length : Int))).toNat = D := ⟨_, rfl⟩
  obtain ⟨XD, hXD⟩ : ∃ X, 2 * (pv (Y1 ++ Y2) * 10 ^ (capE ye - (Y2.length : Int)).toNat) * S1074 = X := ⟨_, rfl⟩
  obtain ⟨DD, hDD⟩ : ∃ D, 10 ^ (-(capE ye - (Y2.length : Int))).toNat = D := ⟨_, rfl⟩
  rw [hXC, hDC] at c3
  rw [hXD, hDD] at c4
  rw [hXC, hDC, hXD, hDD] at HC2
  have C1 := Lib.hid c1
  have C2 := Lib.hid c2
  have C3 := Lib.hid c3
  have C4 := Lib.hid c4
  have C5 := Lib.hid c5
  have C6 := Lib.hid c6
  have CS := Lib.hid (fun x hx W => same_self x W hx)
  have t0 : ¬ (3000 : Int) < (S.size : Int) := by omega
  clear c1 c2 c3 c4 c5 c6 hX hY hB hXA hDA hXB hDB hXC hDC hXD hDD hd hl hd2 hl2 hT hh
  go_enter Tryz.func3, Tryz.ntmps3
  go_wp2_with fail
  refine CF.out.mono ?_
  rintro e w0 ⟨rfl, hB⟩
  go_wp2_with fail
  refine (C1.out _).mono ?_
  rintro e w1 ⟨r, rfl, hr, hn⟩
  have hB := hB.trans (hn.mono hB.size)
  clear hn
  go_wp2_with fail
  refine (C2.out _).mono ?_
  rintro e w2 ⟨r2, rfl, hr2, hn⟩
  have hB := hB.trans (hn.mono hB.size)
  have e2 : r2 = r := HC.out r r2 hr.out hr2.out
  have hlt1 := turned_lt (b := b) hr.out.top
  rw [e2]
  obtain ⟨V1, hV1⟩ : ∃ V, turned b r = V := ⟨_, rfl⟩
  rw [hV1] at hlt1 ⊢
  clear hn e2 hr hr2 hV1
  go_wp2_with fail
  refine (C3.out _).mono ?_
  rintro e w3 ⟨q, rfl, hq, hn⟩
  have hB := hB.trans (hn.mono hB.size)
  clear hn
  go_wp2_with fail
  refine (C4.out _).mono ?_
  rintro e w4 ⟨q2, rfl, hq2, hn⟩
  have hB := hB.trans (hn.mono hB.size)
  have e2 : q2 = q := HC2.out q q2 hq.out hq2.out
  have hlt2 := turned_lt (b := false) hq.out.top
  rw [e2]
  obtain ⟨V2, hV2⟩ : ∃ V, turned false q = V := ⟨_, rfl⟩
  rw [hV2] at hlt2 ⊢
  clear hn e2 hq hq2 hV2
  go_wp2_with fail
  refine (CS.out V1 hlt1 _).mono ?_
  rintro e w' ⟨rfl, rfl⟩
  go_wp2_with fail
  refine (CS.out V2 hlt2 _).mono ?_
  rintro e w' ⟨rfl, rfl⟩
  go_wp2_with fail
  refine (C5.out _).mono ?_
  rintro e w5 ⟨rfl, hn⟩
  have hB := hB.trans (hn.mono hB.size)
  clear hn
  go_wp2_with fail
  refine (C6.out _).mono ?_
  rintro e w6 ⟨rfl, hn⟩
  have hB := hB.trans (hn.mono hB.size)
  clear hn
  cases B
  all_goals
    go_wp2_with fail
    go_ret
    exact ⟨rfl, hB⟩
set_option maxRecDepth 100000 in
set_option maxHeartbeats 4000000 in
theorem numTexts_hex (S : ByteArray) (w : World) (hs9 : S.size ≤ 3000) (hh : hexP S.data.toList ≠ []) (hT : PowTab w) :
    Calls Tryz.prog 3 #[.string S] w fun e w' => e = .returned (.bool true) ∧ Below w.heap.size w w' := by
  have CF := Lib.hid (nfixed_any w hT)
  obtain ⟨b, X1, X2, xe, z, hX⟩ : ∃ b X1 X2 xe z, sigL S.data.toList = (b, X1, X2, xe, z) := ⟨_, _, _, _, _, rfl⟩
  have c1 := fun W => prefix_any S W (by omega) b X1 X2 xe z hX
  have c2 := fun W => rprefix_any S W hs9 b X1 X2 xe z hX
  have hb := sigL_bd S.data.toList
  rw [hX, ba_len] at hb
  obtain ⟨hd, hl, -⟩ := hb
  replace hd : Dec (X1 ++ X2) := hd
  replace hl : X1.length + X2.length ≤ S.size := hl
  have HC := Lib.hid (fun r r' h h' => near_cap (r := r) (r' := r') (xe := xe) (c := X2.length) hd (by rw [List.length_append]; omega) h h')
  have c3 := fun W => literal_hex S W (by omega) hh
  have c4 := fun W => rliteral_hex S W hs9 hh
  unfold HexEnd at c3 c4
  have hlt2 : hexF S.data.toList < 18446744073709551616 := by
    unfold hexF
    rw [if_neg hh]
    have h1 := hvl_lt _ (hexP S.data.toList) rfl
    have h2 : hvl (hexP S.data.toList) < 4503599627370496 := Nat.lt_of_lt_of_le h1 (Nat.le_trans (Nat.pow_le_pow_right (by omega) (hexP_len _).1) (show 16 ^ 13 ≤ 4503599627370496 by decide))
    have := fw_bd (m := hvl (hexP S.data.toList)) (by omega)
    omega
  obtain ⟨V2, hV2⟩ : ∃ V, hexF S.data.toList = V := ⟨_, rfl⟩
  obtain ⟨y, hy⟩ : ∃ y, hexS S.data.toList = y := ⟨_, rfl⟩
  rw [hV2, hy] at c3 c4
  rw [hV2] at hlt2
  have c5 := fun W => looks_any S W (by omega)
  have c6 := fun W => rlooks_any S W hs9
  obtain ⟨B, hB⟩ : ∃ B, looksL S.data.toList = B := ⟨_, rfl⟩
  rw [hB] at c5 c6
  obtain ⟨XA, hXA⟩ : ∃ X, 2 * (pv (X1 ++ X2) * 10 ^ (xe - (X2.length : Int)).toNat) * S1074 = X := ⟨_, rfl⟩
  obtain ⟨DA, hDA⟩ : ∃ D, 10 ^ (-(xe - (X2.length : Int))).toNat = D := ⟨_, rfl⟩
  obtain ⟨XB, hXB⟩ : ∃ X, 2 * (pv (X1 ++ X2) * 10 ^ (capE xe - (X2.length : Int)).toNat) * S1074 = X := ⟨_, rfl⟩
  obtain ⟨DB, hDB⟩ : ∃ D, 10 ^ (-(capE xe - (X2.length : Int))).toNat = D := ⟨_, rfl⟩
  rw [hXA, hDA] at c1
  rw [hXB, hDB] at c2
  rw [hXA, hDA, hXB, hDB] at HC
  have C1 := Lib.hid c1
  have C2 := Lib.hid c2
  have C3 := Lib.hid c3
  have C4 := Lib.hid c4
  have C5 := Lib.hid c5
  have C6 := Lib.hid c6
  have CS := Lib.hid (fun x hx W => same_self x W hx)
  have t0 : ¬ (3000 : Int) < (S.size : Int) := by omega
  clear c1 c2 c3 c4 c5 c6 hX hB hXA hDA hXB hDB hV2 hy hd hl hT hh
  go_enter Tryz.func3, Tryz.ntmps3
  go_wp2_with fail
  refine CF.out.mono ?_
  rintro e w0 ⟨rfl, hB⟩
  go_wp2_with fail
  refine (C1.out _).mono ?_
  rintro e w1 ⟨r, rfl, hr, hn⟩
  have hB := hB.trans (hn.mono hB.size)
  clear hn
  go_wp2_with fail
  refine (C2.out _).mono ?_
  rintro e w2 ⟨r2, rfl, hr2, hn⟩
  have hB := hB.trans (hn.mono hB.size)
  have e2 : r2 = r := HC.out r r2 hr.out hr2.out
  have hlt1 := turned_lt (b := b) hr.out.top
  rw [e2]
  obtain ⟨V1, hV1⟩ : ∃ V, turned b r = V := ⟨_, rfl⟩
  rw [hV1] at hlt1 ⊢
  clear hn e2 hr hr2 hV1
  go_wp2_with fail
  refine (C3.out _).mono ?_
  rintro e w' ⟨rfl, rfl⟩
  go_wp2_with fail
  refine (C4.out _).mono ?_
  rintro e w' ⟨rfl, rfl⟩
  go_wp2_with fail
  refine (CS.out V1 hlt1 _).mono ?_
  rintro e w' ⟨rfl, rfl⟩
  go_wp2_with fail
  refine (CS.out V2 hlt2 _).mono ?_
  rintro e w' ⟨rfl, rfl⟩
  go_wp2_with fail
  refine (C5.out _).mono ?_
  rintro e w5 ⟨rfl, hn⟩
  have hB := hB.trans (hn.mono hB.size)
  clear hn
  go_wp2_with fail
  refine (C6.out _).mono ?_
  rintro e w6 ⟨rfl, hn⟩
  have hB := hB.trans (hn.mono hB.size)
  clear hn
  cases B
  all_goals
    go_wp2_with fail
    go_ret
    exact ⟨rfl, hB⟩
set_option maxRecDepth 100000 in
theorem numTexts_long (S : ByteArray) (w : World) (hs9 : 3000 < S.size) (hT : PowTab w) :
    Calls Tryz.prog 3 #[.string S] w fun e w' => e = .returned (.bool true) ∧ Below w.heap.size w w' := by
  have CF := Lib.hid (nfixed_any w hT)
  have t0 : (3000 : Int) < (S.size : Int) := by omega
  clear hT
  go_enter Tryz.func3, Tryz.ntmps3
  go_wp2_with fail
  refine CF.out.mono ?_
  rintro e w0 ⟨rfl, hB⟩
  go_wp2_with fail
  go_ret
  exact ⟨rfl, hB⟩
theorem numTexts_any (S : ByteArray) (w : World) (hT : PowTab w) :
    Calls Tryz.prog 3 #[.string S] w fun e w' => e = .returned (.bool true) ∧ Below w.heap.size w w' := by
  by_cases h : 3000 < S.size
  · exact numTexts_long S w h hT
  · by_cases hh : hexP S.data.toList = []
    · exact numTexts_num S w (by omega) hh hT
    · exact numTexts_hex S w (by omega) hh hT
end Go.Proofs.YtlpobomlnlakcaaGreatDoor
