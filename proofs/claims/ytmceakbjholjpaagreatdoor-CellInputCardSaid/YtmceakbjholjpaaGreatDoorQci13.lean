/- Several texts in one (The definition of layer 4: Numeral, told by numL; The definition of layer 4: Prefix, walked; The definition of layer 4: Prefix, walked to its end; The definition of layer 4: Prefix told by sigL; the definition's exponents give the same floats; Looks; The walk of the law CellInput). -/
import Derived.Test.YtmceakbjholjpaaGreatDoorQci6
import Derived.Test.YtmceakbjholjpaaGreatDoorQci7
import Derived.Test.YtmceakbjholjpaaGreatDoorQci11
import Derived.Test.YtmceakbjholjpaaGreatDoorQci12
namespace Go.Proofs.YtmceakbjholjpaaGreatDoor
open Go.RowKit Go.Lib

theorem drop_at {S : ByteArray} {q : Nat} (hq : q < S.size) : S.data.toList.drop q = S[q]'hq :: S.data.toList.drop (q + 1) := by
  have hl : q < S.data.toList.length := by rw [ba_len]; exact hq
  have hb := ba_byte S rfl q hq
  rw [List.getElem?_eq_getElem hl] at hb
  rw [List.drop_eq_getElem_cons hl, Option.some.inj hb]
theorem drop_far {S : ByteArray} {q : Nat} (hq : S.size ≤ q) : S.data.toList.drop q = [] := List.drop_eq_nil_of_le (by rw [ba_len]; exact hq)
theorem run_drop (S : List UInt8) (p : Nat) : (S.drop p).dropWhile isD = S.drop (p + nDig (S.drop p)) := by rw [← nDig_drop, List.drop_drop]
theorem skind_any (S : ByteArray) (k : Nat) : ∃ b k', SKind S k b k' ∧ (sgnL (S.data.toList.drop k)).1 = b ∧ (sgnL (S.data.toList.drop k)).2 = S.data.toList.drop k' ∧ k' ≤ k + 1 ∧ k ≤ k' := by
  by_cases hk : k < S.size
  · rw [drop_at hk]
    obtain ⟨c, hc⟩ : ∃ c, S[k]'hk = c := ⟨_, rfl⟩
    rw [hc]
    by_cases h1 : c = 45
    · subst h1
      exact ⟨true, k + 1, .minus _ rfl hk (by rw [hc]; rfl), rfl, rfl, by omega, by omega⟩
    · by_cases h2 : c = 43
      · subst h2
        exact ⟨false, k + 1, .plus _ rfl hk (by rw [hc]; rfl), rfl, rfl, by omega, by omega⟩
      · have e : sgnL (c :: S.data.toList.drop (k + 1)) = (false, c :: S.data.toList.drop (k + 1)) := by
          unfold sgnL
          split
          · rename_i h; exact absurd (List.cons.inj h).1 h1
          · rename_i h; exact absurd (List.cons.inj h).1 h2
          · rfl
        refine ⟨false, k, .other _ rfl hk ⟨?_, ?_⟩, by rw [e], ?_, by omega, by omega⟩
        · rw [hc]; intro h; exact h2 (UInt8.toNat_inj.1 (by rw [h]; rfl))
        · rw [hc]; intro h; exact h1 (UInt8.toNat_inj.1 (by rw [h]; rfl))
        · rw [e, drop_at hk, hc]
  · refine ⟨false, k, .far _ rfl (by omega), ?_, ?_, by omega, by omega⟩
    · rw [drop_far (by omega)]; rfl
    · rw [drop_far (by omega)]; rfl
/-- The exponent as the definition counts it. -/
def capE (x : Int) : Int := max x (-100000)
theorem cap0 : (0 : Int) = capE 0 := by decide
theorem ekind_any (S : ByteArray) (q : Nat) : ∃ x en : _, EKind S q x en ∧ x = capE (expL (S.data.toList.drop q)).1 ∧ (S.data.toList.drop q).length + q = (expL (S.data.toList.drop q)).2.length + en := by
  by_cases hq : q < S.size
  · obtain ⟨c, hc⟩ : ∃ c, S[q]'hq = c := ⟨_, rfl⟩
    have hd := drop_at hq
    rw [hc] at hd
    by_cases he : c = 101 ∨ c = 69
    · have he2 : (S[q]'hq).toNat = 101 ∨ (S[q]'hq).toNat = 69 := by
        rw [hc]
        rcases he with rfl | rfl
        · exact Or.inl rfl
        · exact Or.inr rfl
      obtain ⟨b, k, hs, hb, hk, hk1, hk2⟩ := skind_any S (q + 1)
      have hex : expL (c :: S.data.toList.drop (q + 1)) = if (sgnL (S.data.toList.drop (q + 1))).2.takeWhile isD = [] then (0, c :: S.data.toList.drop (q + 1)) else (if (sgnL (S.data.toList.drop (q + 1))).1 = true then -(cntZ ((sgnL (S.data.toList.drop (q + 1))).2.takeWhile isD) 1099511627776 : Int) else (cntZ ((sgnL (S.data.toList.drop (q + 1))).2.takeWhile isD) 100000 : Int), (sgnL (S.data.toList.drop (q + 1))).2.dropWhile isD) := by
        show (if c = 101 ∨ c = 69 then _ else _) = _
        rw [if_pos he]
      rw [hb, hk] at hex
      have hr := dig_run S.data.toList k
      by_cases h0 : (S.data.toList.drop k).takeWhile isD = []
      · rw [if_pos h0] at hex
        have hz : nDig (S.data.toList.drop k) = 0 := by unfold nDig; rw [h0]; rfl
        have hdg := hr.2
        rw [hz, Nat.add_zero] at hdg
        refine ⟨0, q, .bare _ _ (Lib.hid rfl) (Lib.hid rfl) hq he2 b k hs hdg, ?_, ?_⟩
        · rw [hd, hex]; exact cap0
        · rw [hd, hex]
      · rw [if_neg h0] at hex
        obtain ⟨n, hn⟩ : ∃ n, nDig (S.data.toList.drop k) = n := ⟨_, rfl⟩
        have hnp : 0 < n := by rw [← hn]; unfold nDig; exact List.length_pos_iff.2 h0
        have htk := run_take S.data.toList k
        rw [hn] at htk
        refine ⟨_, k + n, .num _ _ hq he2 b k n hs hn hnp (Lib.hid rfl) (Lib.hid rfl), ?_, ?_⟩
        · rw [hd, hex, htk]
          unfold capE cntZ
          cases b with
          | true => rw [if_pos rfl, if_pos rfl]; simp only; omega
          | false => rw [if_neg (by decide), if_neg (by decide)]; simp only; omega
        · have hdr := run_drop S.data.toList k
          rw [hn] at hdr
          have hl := nDig_le (S.data.toList.drop k)
          rw [hn, List.length_drop, ba_len] at hl
          have hks : k ≤ S.size := by
            rcases Nat.lt_or_ge S.size k with h | h
            · omega
            · exact h
          rw [hd, hex, hdr]
          simp only [List.length_cons, List.length_drop, ba_len]
          omega
    · have hex : expL (c :: S.data.toList.drop (q + 1)) = (0, c :: S.data.toList.drop (q + 1)) := by
        show (if c = 101 ∨ c = 69 then _ else _) = _
        rw [if_neg he]
      refine ⟨0, q, .other _ _ (Lib.hid rfl) (Lib.hid rfl) hq ⟨?_, ?_⟩, ?_, ?_⟩
      · rw [hc]; intro h; exact he (Or.inl (UInt8.toNat_inj.1 (by rw [h]; rfl)))
      · rw [hc]; intro h; exact he (Or.inr (UInt8.toNat_inj.1 (by rw [h]; rfl)))
      · rw [hd, hex]; exact cap0
      · rw [hd, hex]
  · refine ⟨0, q, .far _ _ (Lib.hid rfl) (Lib.hid rfl) (by omega), ?_, ?_⟩
    · rw [drop_far (by omega)]; exact cap0
    · rw [drop_far (by omega)]; rfl
/-- The definition's Numeral at a place. -/
theorem rnumeral_any (S : ByteArray) (f : Nat) (w : World) (hs9 : S.size ≤ 4000) (hfl : f ≤ S.size) (X1 X2 : List UInt8) (xe z : Int) (hX : numL (S.data.toList.drop f) = (X1, X2, xe, z)) :
    ∃ en : Nat, (en : Int) = (f : Int) + z ∧ Calls Tryz.prog 104 #[.string S, .int .i64 (f : Int)] w (RNum w (X1 ++ X2) (capE xe - (X2.length : Int)) en) := by
  obtain ⟨a, ha⟩ : ∃ a, nDig (S.data.toList.drop f) = a := ⟨_, rfl⟩
  have htk := run_take S.data.toList f
  have hdr := run_drop S.data.toList f
  rw [ha] at htk hdr
  have hal : f + a ≤ S.size := by
    have := nDig_le (S.data.toList.drop f)
    rw [ha, List.length_drop, ba_len] at this
    omega
  have hlen : (S.data.toList.drop f).length = S.size - f := by rw [List.length_drop, ba_len]
  have htl : ((S.data.toList.drop f).takeWhile isD).length = a := ha
  by_cases hpt : ∃ hq : f + a < S.size, (S[f + a]'hq).toNat = 46
  · obtain ⟨hq, hy⟩ := hpt
    have hc46 : (S[f + a]'hq) = 46 := UInt8.toNat_inj.1 (by rw [hy]; rfl)
    have hd := drop_at hq
    rw [hc46] at hd
    rw [hd] at hdr
    have hP := numP_point hdr
    obtain ⟨p, hp⟩ : ∃ p, f + a + 1 = p := ⟨_, rfl⟩
    rw [hp] at hP
    obtain ⟨b, hb⟩ : ∃ b, nDig (S.data.toList.drop p) = b := ⟨_, rfl⟩
    have htk2 := run_take S.data.toList p
    have hdr2 := run_drop S.data.toList p
    rw [hb] at htk2 hdr2
    have htl2 : ((S.data.toList.drop p).takeWhile isD).length = b := hb
    have hbl : p + b ≤ S.size := by
      have := nDig_le (S.data.toList.drop p)
      rw [hb, List.length_drop, ba_len] at this
      omega
    by_cases hz : a = 0 ∧ b = 0
    · obtain ⟨ha0, hb0⟩ := hz
      have e1 : (S.data.toList.drop f).takeWhile isD = [] := List.length_eq_zero_iff.1 (by omega)
      have e2 : (S.data.toList.drop p).takeWhile isD = [] := List.length_eq_zero_iff.1 (by omega)
      rw [numL_no (by rw [hP]; exact ⟨e1, e2⟩)] at hX
      cases hX
      refine ⟨f, by omega, ?_⟩
      have hdg := (dig_run S.data.toList p).2
      rw [hb, hb0, Nat.add_zero] at hdg
      refine rnum_none S f a w hs9 hfl ha ha0 (Or.inr (Or.inr ⟨by omega, ?_, ?_⟩))
      · subst ha0; exact hy
      · rw [show f + 1 = p by omega]; exact hdg
    · have hne : ¬ ((numP (S.data.toList.drop f)).1 = [] ∧ (numP (S.data.toList.drop f)).2.1 = []) := by
        rw [hP]
        rintro ⟨e1, e2⟩
        have e1 : (S.data.toList.drop f).takeWhile isD = [] := e1
        have e2 : (S.data.toList.drop p).takeWhile isD = [] := e2
        rw [e1] at htl
        rw [e2] at htl2
        exact hz ⟨htl.symm, htl2.symm⟩
      rw [numL_yes hne, hP, hdr2] at hX
      obtain ⟨x, en, hE, hx, hen⟩ := ekind_any S (p + b)
      have q1 : X1 = (S.data.toList.drop f).takeWhile isD := (congrArg Prod.fst hX).symm
      have q2 : X2 = (S.data.toList.drop p).takeWhile isD := (congrArg (fun y => y.2.1) hX).symm
      have q3 : xe = (expL (S.data.toList.drop (p + b))).1 := (congrArg (fun y => y.2.2.1) hX).symm
      have q4 : z = ((S.data.toList.drop f).length : Int) - ((expL (S.data.toList.drop (p + b))).2.length : Int) := (congrArg (fun y => y.2.2.2) hX).symm
      rw [List.length_drop, ba_len] at hen
      refine ⟨en, by rw [q4, hlen]; omega, ?_⟩
      rw [q1, q2, q3, ← hx, ← htk, ← htk2, show x - (((S.data.toList.drop p).take b).length : Int) = -(b : Int) + x by rw [htk2, htl2]; omega]
      by_cases h0 : 0 < a
      · exact rnum_point_some S f a w hs9 hfl ha h0 hq hy p b hp hb x en hE
      · exact rnum_point_no S f a w hs9 hfl ha (by omega) hq hy p b hp hb (by omega) x en hE
  · have hhd : ((S.data.toList.drop f).dropWhile isD).head? ≠ some 46 := by
      rw [hdr]
      intro h
      by_cases hq : f + a < S.size
      · rw [drop_at hq] at h
        exact hpt ⟨hq, by rw [Option.some.inj h]; rfl⟩
      · rw [drop_far (by omega)] at h
        cases h
    have hP := numP_none hhd
    by_cases h0 : 0 < a
    · have hne : ¬ ((numP (S.data.toList.drop f)).1 = [] ∧ (numP (S.data.toList.drop f)).2.1 = []) := by
        rw [hP]
        rintro ⟨e1, -⟩
        have e1 : (S.data.toList.drop f).takeWhile isD = [] := e1
        rw [e1] at htl
        exact absurd htl (by simp; omega)
      rw [numL_yes hne, hP, hdr] at hX
      obtain ⟨x, en, hE, hx, hen⟩ := ekind_any S (f + a)
      have q1 : X1 = (S.data.toList.drop f).takeWhile isD := (congrArg Prod.fst hX).symm
      have q2 : X2 = [] := (congrArg (fun y => y.2.1) hX).symm
      have q3 : xe = (expL (S.data.toList.drop (f + a))).1 := (congrArg (fun y => y.2.2.1) hX).symm
      have q4 : z = ((S.data.toList.drop f).length : Int) - ((expL (S.data.toList.drop (f + a))).2.length : Int) := (congrArg (fun y => y.2.2.2) hX).symm
      rw [List.length_drop, ba_len] at hen
      refine ⟨en, by rw [q4, hlen]; omega, ?_⟩
      rw [q1, q2, q3, ← hx, ← htk, List.append_nil, show x - (([] : List UInt8).length : Int) = 0 + x by simp]
      refine rnum_plain S f a w hs9 hfl ha h0 ?_ x en hE
      by_cases hq : f + a < S.size
      · exact Or.inr ⟨hq, fun h => hpt ⟨hq, h⟩⟩
      · exact Or.inl (by omega)
    · have e1 : (S.data.toList.drop f).takeWhile isD = [] := List.length_eq_zero_iff.1 (by omega)
      rw [numL_no (by rw [hP]; exact ⟨e1, rfl⟩)] at hX
      cases hX
      refine ⟨f, by omega, ?_⟩
      have ha0 : a = 0 := by omega
      subst ha0
      refine rnum_none S f 0 w hs9 hfl ha rfl ?_
      by_cases hq : f < S.size
      · exact Or.inr (Or.inl ⟨hq, fun h => hpt ⟨hq, h⟩⟩)
      · exact Or.inl (by omega)
end Go.Proofs.YtmceakbjholjpaaGreatDoor

namespace Go.Proofs.YtmceakbjholjpaaGreatDoor
open Go.RowKit Go.Lib

/-- How many blanks stand ahead. -/
def nb (l : List UInt8) : Nat := (l.takeWhile ([32, 9, 10].contains ·)).length
theorem nb_drop (l : List UInt8) : l.drop (nb l) = noBlanks l := by
  have h : l.takeWhile ([32, 9, 10].contains ·) ++ l.dropWhile ([32, 9, 10].contains ·) = l := List.takeWhile_append_dropWhile
  have e := List.drop_left (l₁ := l.takeWhile ([32, 9, 10].contains ·)) (l₂ := l.dropWhile ([32, 9, 10].contains ·))
  rw [h] at e
  exact e
theorem nb_le (l : List UInt8) : nb l ≤ l.length := (List.takeWhile_prefix _).length_le
theorem nb_at {S : ByteArray} {j : Nat} (hj : j < nb S.data.toList) : ∃ hq : j < S.size, blB (S[j]'hq).toNat = true := by
  have hl := nb_le S.data.toList
  rw [ba_len] at hl
  refine ⟨by omega, ?_⟩
  have h : S.data.toList.takeWhile ([32, 9, 10].contains ·) ++ S.data.toList.dropWhile ([32, 9, 10].contains ·) = S.data.toList := List.takeWhile_append_dropWhile
  have e := List.getElem?_append_left (l₂ := S.data.toList.dropWhile ([32, 9, 10].contains ·)) hj
  rw [h, ba_byte S rfl j (by omega), List.getElem?_eq_getElem hj] at e
  rw [Option.some.inj e, ← blB_contains]
  exact List.all_eq_true.1 (List.all_takeWhile (p := ([32, 9, 10].contains ·)) (l := S.data.toList)) _ (List.getElem_mem hj)
theorem nb_stop {S : ByteArray} (hq : nb S.data.toList < S.size) : blB (S[nb S.data.toList]'hq).toNat = false := by
  have e := nb_drop S.data.toList
  rw [drop_at hq] at e
  rw [← blB_contains]
  exact drop_head e.symm
theorem numL_zero {l : List UInt8} (h : (numL l).2.2.2 = 0) : numL l = ([], [], 0, 0) := by
  by_cases hz : (numP l).1 = [] ∧ (numP l).2.1 = []
  · exact numL_no hz
  · exfalso
    rw [numL_yes hz] at h
    have h : (l.length : Int) - ((expL (numP l).2.2).2.length : Int) = 0 := h
    have hx := (expL_bd (numP l).2.2).2.2
    have hp : (numP l).1.length + (numP l).2.1.length + (numP l).2.2.length ≤ l.length := by
      have e := congrArg List.length (List.takeWhile_append_dropWhile (p := isD) (l := l))
      rw [List.length_append] at e
      unfold numP
      split
      · rename_i r hr
        rw [hr, List.length_cons] at e
        have e2 := congrArg List.length (List.takeWhile_append_dropWhile (p := isD) (l := r))
        rw [List.length_append] at e2
        simp only
        omega
      · simp only [List.length_nil]
        omega
    have : 0 < (numP l).1.length + (numP l).2.1.length := by
      rcases Nat.eq_zero_or_pos ((numP l).1.length + (numP l).2.1.length) with h0 | h0
      · exact absurd ⟨List.length_eq_zero_iff.1 (by omega), List.length_eq_zero_iff.1 (by omega)⟩ hz
      · exact h0
    omega
end Go.Proofs.YtmceakbjholjpaaGreatDoor

namespace Go.Proofs.YtmceakbjholjpaaGreatDoor
open Go.RowKit Go.Lib

set_option maxRecDepth 100000 in
set_option maxHeartbeats 4000000 in
theorem rprefix_yes (S : ByteArray) (k i en : Nat) (b : Bool) (w : World) (hs9 : S.size ≤ 3000) (hk : nb S.data.toList = k) (hs : SKind S k b i) (X D : Nat)
    (C : ∀ W, Calls Tryz.prog 104 #[.string S, .int .i64 (i : Int)] W fun e w' => ∃ r, e = .returned (.tuple #[.float .f64 r, .int .i64 (en : Int)]) ∧ Hid (Near X D r) ∧ Below W.heap.size W w') (hen : i < en) (_hen2 : en ≤ 10000) :
    Calls Tryz.prog 67 #[.string S] w (PreEnd b (en : Int) w X D) := by
  have HK := Lib.hid (fun (j : Nat) (hj : j < k) => show ∃ hq : j < S.size, blB (S[j]'hq).toNat = true from nb_at (by rw [hk]; exact hj))
  have hkl : k ≤ S.size := by rw [← hk, ← ba_len]; exact nb_le _
  have HS := Lib.hid (fun (hq : k < S.size) => show blB (S[k]'hq).toNat = false by subst hk; exact nb_stop hq)
  have CN := Lib.hid C
  have hne : ((en : Int) == (i : Int)) = false := by rw [beq_eq_false_iff_ne]; omega
  clear C hk
  go_enter Tryz.func67, Tryz.ntmps67
  go_wp2_with fail
  go_loop [4] (fun iv => ∃ j : Nat, j ≤ k ∧ iv = .int .i64 (j : Int)) (fun iv => k - (RowKit.intOf iv).toNat)
  case atStart => exact ⟨0, by omega, rfl⟩
  case round =>
    obtain ⟨j, hj, rfl⟩ := hrel
    by_cases hlt : j < k
    · obtain ⟨hq, hb⟩ := HK.out j hlt
      obtain ⟨z, hz⟩ : ∃ z, (S[j]'hq).toNat = z := ⟨_, rfl⟩
      have hzi : (((S[j]'hq).toNat : Nat) : Int) = (z : Int) := by rw [hz]
      have hzb : z < 256 := by rw [← hz]; exact UInt8.toNat_lt _
      rw [hz] at hb
      have CB := Lib.hid (fun W => blank_any z W hzb)
      rw [hb] at CB
      have t1 : (j : Int) < (S.size : Int) := by omega
      clear hz hb
      go_wp2_with fail
      refine (CB.out _).mono ?_
      rintro e w' ⟨rfl, rfl⟩
      go_wp2_with fail
      go_round
      case rel => exact ⟨j + 1, by omega, by go_num⟩
      case measure => simp [RowKit.intOf]; omega
    · obtain rfl : k = j := by omega
      cases hs with
      | far _ e h =>
        subst e
        have t1 : ¬ (k : Int) < (S.size : Int) := by omega
        go_wp2_with fail
        refine (CN.out _).mono ?_
        rintro e w2 ⟨r, rfl, hr, hB⟩
        go_wp2_with fail
        go_ret2
        exact ⟨r, rfl, hr, hB⟩
      | other _ e hq h =>
        subst e
        obtain ⟨z, hz⟩ : ∃ z, (S[k]'hq).toNat = z := ⟨_, rfl⟩
        have hzi : (((S[k]'hq).toNat : Nat) : Int) = (z : Int) := by rw [hz]
        have hzb : z < 256 := by rw [← hz]; exact UInt8.toNat_lt _
        have hbl := HS.out hq
        rw [hz] at hbl h
        have CB := Lib.hid (fun W => blank_any z W hzb)
        rw [hbl] at CB
        have t1 : (k : Int) < (S.size : Int) := by omega
        obtain ⟨o1, o2⟩ := h
        have v1 : ((z : Int) == 45) = false := by rw [beq_eq_false_iff_ne]; omega
        have v2 : ((z : Int) == 43) = false := by rw [beq_eq_false_iff_ne]; omega
        clear hz hbl o1 o2
        go_wp2_with fail
        refine (CB.out _).mono ?_
        rintro e w' ⟨rfl, rfl⟩
        go_wp2_with fail
        refine (CN.out _).mono ?_
        rintro e w2 ⟨r, rfl, hr, hB⟩
        go_wp2_with fail
        go_ret2
        exact ⟨r, rfl, hr, hB⟩
      | plus _ e hq h =>
        obtain ⟨ii, hii⟩ : ∃ ii, k + 1 = ii := ⟨_, rfl⟩
        rw [hii] at e
        subst e
        have hk1 : (k : Int) + 1 = (ii : Int) := by omega
        clear hii
        obtain ⟨z, hz⟩ : ∃ z, (S[k]'hq).toNat = z := ⟨_, rfl⟩
        have hzi : (((S[k]'hq).toNat : Nat) : Int) = (z : Int) := by rw [hz]
        have hzb : z < 256 := by rw [← hz]; exact UInt8.toNat_lt _
        have hbl := HS.out hq
        rw [hz] at hbl h
        have CB := Lib.hid (fun W => blank_any z W hzb)
        rw [hbl] at CB
        have t1 : (k : Int) < (S.size : Int) := by omega
        have v1 : ((z : Int) == 45) = false := by rw [beq_eq_false_iff_ne]; omega
        have v2 : ((z : Int) == 43) = true := by rw [beq_iff_eq]; omega
        clear hz hbl h
        go_wp2_with fail
        refine (CB.out _).mono ?_
        rintro e w' ⟨rfl, rfl⟩
        go_wp2_with fail
        refine (CN.out _).mono ?_
        rintro e w2 ⟨r, rfl, hr, hB⟩
        go_wp2_with fail
        go_ret2
        exact ⟨r, rfl, hr, hB⟩
      | minus _ e hq h =>
        obtain ⟨ii, hii⟩ : ∃ ii, k + 1 = ii := ⟨_, rfl⟩
        rw [hii] at e
        subst e
        have hk1 : (k : Int) + 1 = (ii : Int) := by omega
        clear hii
        obtain ⟨z, hz⟩ : ∃ z, (S[k]'hq).toNat = z := ⟨_, rfl⟩
        have hzi : (((S[k]'hq).toNat : Nat) : Int) = (z : Int) := by rw [hz]
        have hzb : z < 256 := by rw [← hz]; exact UInt8.toNat_lt _
        have hbl := HS.out hq
        rw [hz] at hbl h
        have CB := Lib.hid (fun W => blank_any z W hzb)
        rw [hbl] at CB
        have t1 : (k : Int) < (S.size : Int) := by omega
        have v1 : ((z : Int) == 45) = true := by rw [beq_iff_eq]; omega
        have v2 : ((z : Int) == 43) = false := by rw [beq_eq_false_iff_ne]; omega
        clear hz hbl h
        go_wp2_with fail
        refine (CB.out _).mono ?_
        rintro e w' ⟨rfl, rfl⟩
        go_wp2_with fail
        refine (CN.out _).mono ?_
        rintro e w2 ⟨r, rfl, hr, hB⟩
        go_wp2_with (simp only [run_neg])
        go_ret2
        exact ⟨r, rfl, hr, hB⟩
set_option maxRecDepth 100000 in
set_option maxHeartbeats 4000000 in
theorem rprefix_no (S : ByteArray) (k i : Nat) (b : Bool) (w : World) (hs9 : S.size ≤ 3000) (hk : nb S.data.toList = k) (hs : SKind S k b i) (X D : Nat) (hZ : Near X D 0)
    (C : ∀ W, Calls Tryz.prog 104 #[.string S, .int .i64 (i : Int)] W fun e w' => ∃ r, e = .returned (.tuple #[.float .f64 r, .int .i64 (i : Int)]) ∧ Hid (Near X D r) ∧ Below W.heap.size W w') :
    Calls Tryz.prog 67 #[.string S] w (PreEnd false 0 w X D) := by
  have HZ := Lib.hid hZ
  clear hZ
  have HK := Lib.hid (fun (j : Nat) (hj : j < k) => show ∃ hq : j < S.size, blB (S[j]'hq).toNat = true from nb_at (by rw [hk]; exact hj))
  have hkl : k ≤ S.size := by rw [← hk, ← ba_len]; exact nb_le _
  have HS := Lib.hid (fun (hq : k < S.size) => show blB (S[k]'hq).toNat = false by subst hk; exact nb_stop hq)
  have CN := Lib.hid C
  clear C hk
  go_enter Tryz.func67, Tryz.ntmps67
  go_wp2_with fail
  go_loop [4] (fun iv => ∃ j : Nat, j ≤ k ∧ iv = .int .i64 (j : Int)) (fun iv => k - (RowKit.intOf iv).toNat)
  case atStart => exact ⟨0, by omega, rfl⟩
  case round =>
    obtain ⟨j, hj, rfl⟩ := hrel
    by_cases hlt : j < k
    · obtain ⟨hq, hb⟩ := HK.out j hlt
      obtain ⟨z, hz⟩ : ∃ z, (S[j]'hq).toNat = z := ⟨_, rfl⟩
      have hzi : (((S[j]'hq).toNat : Nat) : Int) = (z : Int) := by rw [hz]
      have hzb : z < 256 := by rw [← hz]; exact UInt8.toNat_lt _
      rw [hz] at hb
      have CB := Lib.hid (fun W => blank_any z W hzb)
      rw [hb] at CB
      have t1 : (j : Int) < (S.size : Int) := by omega
      clear hz hb
      go_wp2_with fail
      refine (CB.out _).mono ?_
      rintro e w' ⟨rfl, rfl⟩
      go_wp2_with fail
      go_round
      case rel => exact ⟨j + 1, by omega, by go_num⟩
      case measure => simp [RowKit.intOf]; omega
    · obtain rfl : k = j := by omega
      cases hs with
      | far _ e h =>
        subst e
        have t1 : ¬ (k : Int) < (S.size : Int) := by omega
        go_wp2_with fail
        refine (CN.out _).mono ?_
        rintro e w2 ⟨r, rfl, hr, hB⟩
        go_wp2_with fail
        go_ret2
        exact ⟨0, rfl, HZ, hB⟩
      | other _ e hq h =>
        subst e
        obtain ⟨z, hz⟩ : ∃ z, (S[k]'hq).toNat = z := ⟨_, rfl⟩
        have hzi : (((S[k]'hq).toNat : Nat) : Int) = (z : Int) := by rw [hz]
        have hzb : z < 256 := by rw [← hz]; exact UInt8.toNat_lt _
        have hbl := HS.out hq
        rw [hz] at hbl h
        have CB := Lib.hid (fun W => blank_any z W hzb)
        rw [hbl] at CB
        have t1 : (k : Int) < (S.size : Int) := by omega
        obtain ⟨o1, o2⟩ := h
        have v1 : ((z : Int) == 45) = false := by rw [beq_eq_false_iff_ne]; omega
        have v2 : ((z : Int) == 43) = false := by rw [beq_eq_false_iff_ne]; omega
        clear hz hbl o1 o2
        go_wp2_with fail
        refine (CB.out _).mono ?_
        rintro e w' ⟨rfl, rfl⟩
        go_wp2_with fail
        refine (CN.out _).mono ?_
        rintro e w2 ⟨r, rfl, hr, hB⟩
        go_wp2_with fail
        go_ret2
        exact ⟨0, rfl, HZ, hB⟩
      | plus _ e hq h =>
        obtain ⟨ii, hii⟩ : ∃ ii, k + 1 = ii := ⟨_, rfl⟩
        rw [hii] at e
        subst e
        have hk1 : (k : Int) + 1 = (ii : Int) := by omega
        clear hii
        obtain ⟨z, hz⟩ : ∃ z, (S[k]'hq).toNat = z := ⟨_, rfl⟩
        have hzi : (((S[k]'hq).toNat : Nat) : Int) = (z : Int) := by rw [hz]
        have hzb : z < 256 := by rw [← hz]; exact UInt8.toNat_lt _
        have hbl := HS.out hq
        rw [hz] at hbl h
        have CB := Lib.hid (fun W => blank_any z W hzb)
        rw [hbl] at CB
        have t1 : (k : Int) < (S.size : Int) := by omega
        have v1 : ((z : Int) == 45) = false := by rw [beq_eq_false_iff_ne]; omega
        have v2 : ((z : Int) == 43) = true := by rw [beq_iff_eq]; omega
        clear hz hbl h
        go_wp2_with fail
        refine (CB.out _).mono ?_
        rintro e w' ⟨rfl, rfl⟩
        go_wp2_with fail
        refine (CN.out _).mono ?_
        rintro e w2 ⟨r, rfl, hr, hB⟩
        go_wp2_with fail
        go_ret2
        exact ⟨0, rfl, HZ, hB⟩
      | minus _ e hq h =>
        obtain ⟨ii, hii⟩ : ∃ ii, k + 1 = ii := ⟨_, rfl⟩
        rw [hii] at e
        subst e
        have hk1 : (k : Int) + 1 = (ii : Int) := by omega
        clear hii
        obtain ⟨z, hz⟩ : ∃ z, (S[k]'hq).toNat = z := ⟨_, rfl⟩
        have hzi : (((S[k]'hq).toNat : Nat) : Int) = (z : Int) := by rw [hz]
        have hzb : z < 256 := by rw [← hz]; exact UInt8.toNat_lt _
        have hbl := HS.out hq
        rw [hz] at hbl h
        have CB := Lib.hid (fun W => blank_any z W hzb)
        rw [hbl] at CB
        have t1 : (k : Int) < (S.size : Int) := by omega
        have v1 : ((z : Int) == 45) = true := by rw [beq_iff_eq]; omega
        have v2 : ((z : Int) == 43) = false := by rw [beq_eq_false_iff_ne]; omega
        clear hz hbl h
        go_wp2_with fail
        refine (CB.out _).mono ?_
        rintro e w' ⟨rfl, rfl⟩
        go_wp2_with fail
        refine (CN.out _).mono ?_
        rintro e w2 ⟨r, rfl, hr, hB⟩
        go_wp2_with fail
        go_ret2
        exact ⟨0, rfl, HZ, hB⟩
end Go.Proofs.YtmceakbjholjpaaGreatDoor

namespace Go.Proofs.YtmceakbjholjpaaGreatDoor
open Go.RowKit Go.Lib

theorem skind_le {S : ByteArray} {k i : Nat} {b : Bool} (h : SKind S k b i) (hk : k ≤ S.size) : i ≤ S.size := by
  cases h with
  | far _ e h => omega
  | other _ e hq h => omega
  | plus _ e hq h => omega
  | minus _ e hq h => omega
theorem rprefix_any (S : ByteArray) (w : World) (hs9 : S.size ≤ 3000) (b : Bool) (X1 X2 : List UInt8) (xe z : Int) (hX : sigL S.data.toList = (b, X1, X2, xe, z)) :
    Calls Tryz.prog 67 #[.string S] w (PreEnd b z w (2 * (pv (X1 ++ X2) * 10 ^ (capE xe - (X2.length : Int)).toNat) * S1074) (10 ^ (-(capE xe - (X2.length : Int))).toNat)) := by
  obtain ⟨k, hk⟩ : ∃ k, nb S.data.toList = k := ⟨_, rfl⟩
  have hkl : k ≤ S.size := by rw [← hk, ← ba_len]; exact nb_le _
  have hnd := nb_drop S.data.toList
  rw [hk] at hnd
  obtain ⟨b', i, hs, hb', hi, hi1, hi2⟩ := skind_any S k
  rw [hnd] at hb' hi
  have hil := skind_le hs hkl
  obtain ⟨Y1, Y2, ye, zz, hY⟩ : ∃ Y1 Y2 ye zz, numL (S.data.toList.drop i) = (Y1, Y2, ye, zz) := ⟨_, _, _, _, rfl⟩
  have hR : sigR S.data.toList = S.data.toList.drop i := hi
  have hbd := numL_bd (S.data.toList.drop i)
  rw [hY, List.length_drop, ba_len] at hbd
  obtain ⟨hz0, hz1⟩ := hbd
  replace hz0 : 0 ≤ zz := hz0
  replace hz1 : zz ≤ ((S.size - i : Nat) : Int) := hz1
  by_cases hz : zz = 0
  · have h0 : (numL (S.data.toList.drop i)).2.2.2 = 0 := by rw [hY]; exact hz
    have hnz := numL_zero h0
    have hsg : sigL S.data.toList = (false, [], [], 0, 0) := by
      unfold sigL
      rw [hR, if_pos h0, hnz]
    rw [hsg] at hX
    cases hX
    rw [hnz] at hY
    cases hY
    refine rprefix_no S k i b' w hs9 hk hs _ _ ?_ (fun W => ?_)
    · have e : 2 * (pv ([] ++ []) * 10 ^ (capE 0 - (([] : List UInt8).length : Int)).toNat) * S1074 = 0 := by rw [List.append_nil, pv_nil, Nat.zero_mul, Nat.mul_zero, Nat.zero_mul]
      rw [e]
      exact near_zero (Nat.pow_pos (by omega))
    · obtain ⟨en, he, h⟩ := rnumeral_any S i W (by omega) hil [] [] 0 0 hnz
      have : en = i := by omega
      subst this
      exact h
  · have h0 : (numL (S.data.toList.drop i)).2.2.2 ≠ 0 := by rw [hY]; exact hz
    have hsg : sigL S.data.toList = (b', Y1, Y2, ye, zz + ((S.data.toList.length : Int) - ((S.data.toList.drop i).length : Int))) := by
      unfold sigL
      rw [hR, if_neg h0, hY, hb']
    rw [hsg, List.length_drop, ba_len] at hX
    cases hX
    obtain ⟨en0, hen0⟩ : ∃ en : Nat, (en : Int) = (i : Int) + zz := ⟨((i : Int) + zz).toNat, by omega⟩
    have hee : zz + ((S.size : Int) - ((S.size - i : Nat) : Int)) = (en0 : Int) := by omega
    rw [hee]
    refine rprefix_yes S k i en0 _ w hs9 hk hs _ _ (fun W => ?_) (by omega) (by omega)
    obtain ⟨en, he, h⟩ := rnumeral_any S i W (by omega) hil _ _ _ _ hY
    have : en = en0 := by omega
    subst this
    exact h
/-- Where the blanks behind a place end. -/
theorem blank_run {S : ByteArray} {z : Nat} (hz : z ≤ S.size) : ∃ K, z ≤ K ∧ K ≤ S.size ∧ (∀ j, z ≤ j → (hj : j < K) → (hq : j < S.size) → blB (S[j]'hq).toNat = true) ∧ (∀ hq : K < S.size, blB (S[K]'hq).toNat = false) ∧ (noBlanks (S.data.toList.drop z)).isEmpty = decide (K = S.size) := by
  obtain ⟨m, hm⟩ : ∃ m, S.size - z = m := ⟨_, rfl⟩
  induction m generalizing z with
  | zero =>
    refine ⟨z, by omega, hz, fun j h1 h2 _ => absurd h1 (by omega), fun hq => absurd hq (by omega), ?_⟩
    rw [drop_far (by omega), decide_eq_true (by omega)]
    rfl
  | succ m ih =>
    have hq : z < S.size := by omega
    cases hb : blB (S[z]'hq).toNat with
    | true =>
      obtain ⟨K, h1, h2, h3, h4, h5⟩ := ih (z := z + 1) (by omega) (by omega)
      refine ⟨K, by omega, h2, fun j a1 a2 a3 => ?_, h4, ?_⟩
      · rcases Nat.eq_or_lt_of_le a1 with e | e
        · subst e; exact hb
        · exact h3 j e a2 a3
      · rw [drop_at hq, noBlanks_step (by rw [blB_contains]; exact hb)]
        exact h5
    | false =>
      refine ⟨z, by omega, hz, fun j h1 h2 _ => absurd h1 (by omega), fun _ => hb, ?_⟩
      rw [drop_at hq, noBlanks_keep (by rw [blB_contains]; exact hb), decide_eq_false (by omega)]
      rfl
set_option maxRecDepth 100000 in
set_option maxHeartbeats 4000000 in
theorem rlooks_any (S : ByteArray) (w : World) (hs9 : S.size ≤ 3000) :
    Calls Tryz.prog 32 #[.string S] w fun e w' => e = .returned (.bool (looksL S.data.toList)) ∧ Below w.heap.size w w' := by
  obtain ⟨b, X1, X2, xe, z, hX⟩ : ∃ b X1 X2 xe z, sigL S.data.toList = (b, X1, X2, xe, z) := ⟨_, _, _, _, _, rfl⟩
  have c1 := rprefix_any S w hs9 b X1 X2 xe z hX
  have hb := sigL_bd S.data.toList
  rw [hX, ba_len] at hb
  obtain ⟨-, -, -, -, hz0, hz1⟩ := hb
  replace hz0 : 0 ≤ z := hz0
  replace hz1 : z ≤ (S.size : Int) := hz1
  obtain ⟨m, rfl⟩ : ∃ m : Nat, z = (m : Int) := ⟨z.toNat, by omega⟩
  have hlk : looksL S.data.toList = (decide (0 < (m : Int)) && (noBlanks (S.data.toList.drop m)).isEmpty) := by
    unfold looksL
    rw [hX]
    rfl
  rw [hlk]
  obtain ⟨X, hXX⟩ : ∃ X, 2 * (pv (X1 ++ X2) * 10 ^ (capE xe - (X2.length : Int)).toNat) * S1074 = X := ⟨_, rfl⟩
  obtain ⟨D, hDD⟩ : ∃ D, 10 ^ (-(capE xe - (X2.length : Int))).toNat = D := ⟨_, rfl⟩
  rw [hXX, hDD] at c1
  have C1 := Lib.hid c1
  clear c1 hX hXX hDD hlk hz0
  by_cases h0 : m = 0
  · subst h0
    rw [show decide ((0 : Int) < ((0 : Nat) : Int)) = false from rfl, Bool.false_and]
    go_enter Tryz.func32, Tryz.ntmps32
    go_wp2_with fail
    refine C1.out.mono ?_
    rintro e w1 ⟨r, rfl, hr, hB⟩
    go_wp2_with fail
    go_ret
    exact ⟨rfl, hB⟩
  · rw [decide_eq_true (by omega), Bool.true_and]
    obtain ⟨K, k1, k2, k3, k4, k5⟩ := blank_run (S := S) (z := m) (by omega)
    rw [k5]
    have H3 := Lib.hid k3
    have H4 := Lib.hid k4
    have hm0 : ((m : Int) == 0) = false := by rw [beq_eq_false_iff_ne]; omega
    clear k3 k4 k5 h0
    go_enter Tryz.func32, Tryz.ntmps32
    go_wp2_with fail
    refine C1.out.mono ?_
    rintro e w1 ⟨r, rfl, hr, hB⟩
    go_wp2_with fail
    go_loop [5] (fun iv => ∃ j : Nat, m ≤ j ∧ j ≤ K ∧ iv = .int .i64 (j : Int)) (fun iv => K - (RowKit.intOf iv).toNat)
    case atStart => exact ⟨m, by omega, by omega, rfl⟩
    case round =>
      obtain ⟨j, hj1, hj2, rfl⟩ := hrel
      by_cases hlt : j < K
      · have hq : j < S.size := by omega
        have hbl := H3.out j hj1 hlt hq
        obtain ⟨y, hy⟩ : ∃ y, (S[j]'hq).toNat = y := ⟨_, rfl⟩
        have hyi : (((S[j]'hq).toNat : Nat) : Int) = (y : Int) := by rw [hy]
        have hyb : y < 256 := by rw [← hy]; exact UInt8.toNat_lt _
        rw [hy] at hbl
        have CB := Lib.hid (fun W => blank_any y W hyb)
        rw [hbl] at CB
        have t1 : (j : Int) < (S.size : Int) := by omega
        clear hy hbl
        go_wp2_with fail
        refine (CB.out _).mono ?_
        rintro e w' ⟨rfl, rfl⟩
        go_wp2_with fail
        go_round
        case rel => exact ⟨j + 1, by omega, by omega, by go_num⟩
        case measure => simp [RowKit.intOf]; omega
      · obtain rfl : K = j := by omega
        by_cases hq : K < S.size
        · have hbl := H4.out hq
          obtain ⟨y, hy⟩ : ∃ y, (S[K]'hq).toNat = y := ⟨_, rfl⟩
          have hyi : (((S[K]'hq).toNat : Nat) : Int) = (y : Int) := by rw [hy]
          have hyb : y < 256 := by rw [← hy]; exact UInt8.toNat_lt _
          rw [hy] at hbl
          have CB := Lib.hid (fun W => blank_any y W hyb)
          rw [hbl] at CB
          have t1 : (K : Int) < (S.size : Int) := by omega
          have HF := Lib.hid (show decide (K = S.size) = false from decide_eq_false (by omega))
          clear hy hbl
          go_wp2_with fail
          refine (CB.out _).mono ?_
          rintro e w' ⟨rfl, rfl⟩
          go_wp2_with fail
          go_ret
          exact ⟨by rw [HF.out]; rfl, hB⟩
        · have t1 : ¬ (K : Int) < (S.size : Int) := by omega
          have HF := Lib.hid (show decide (K = S.size) = true from decide_eq_true (by omega))
          go_wp2_with fail
          go_ret
          exact ⟨by rw [HF.out]; rfl, hB⟩
end Go.Proofs.YtmceakbjholjpaaGreatDoor

namespace Go.Proofs.YtmceakbjholjpaaGreatDoor
open Go.RowKit Go.Lib

theorem preN_lt (l : List UInt8) : preN l < 18446744073709551616 := turned_lt _ (by have := nearR_top (2 * (pv ((sigL l).2.1 ++ (sigL l).2.2.1) * 10 ^ ((sigL l).2.2.2.1 - ((sigL l).2.2.1.length : Int)).toNat) * S1074) (10 ^ (-((sigL l).2.2.2.1 - ((sigL l).2.2.1.length : Int))).toNat); omega)
set_option maxRecDepth 100000 in
set_option maxHeartbeats 16000000 in
theorem cellInput_str (e : Bool) (nx : Nat) (s : ByteArray) (w : World) (hT : PowTab w) (hs : s.size ≤ 3000) (hnx : preN s.data.toList = nx) (hva : looksL s.data.toList = false)
    (he : (!s.data.toList.isEmpty) = e) :
    Calls Tryz.prog 8 #[.string s] w fun e w' => e = .returned (.bool true) ∧ Below w.heap.size w w' := by
  have CF := Lib.hid (cfixed_any w hT)
  have ci : ∀ W, Calls Tryz.prog 26 #[.string s] W fun e w' => e = .returned (.agg #[.int .i64 2, .float .f64 0, .string s]) ∧ Below W.heap.size W w' := fun W => cInput_any s false nx W (by omega) hva hnx
  have CI := Lib.hid ci
  have TB := Lib.hid (fun W => cText_any s W (by omega))
  have CV := Lib.hid (fun W => cValid_str s W)
  have CV2 := Lib.hid (fun W => cValid_str s W)
  have wr : ∀ (l : Int), l = 2 ∨ l = 3 → wrT l s ⟨#[]⟩ = s := fun l h => by
    unfold wrT
    rw [if_neg (by omega), if_pos h]
  have cs1 := fun (W : World) (hW : PowTab W) => cString_any 2 0 s ⟨#[120]⟩ ⟨#[]⟩ W (fun h => by omega) hW (by rw [wr 2 (by omega)]; omega)
  have cs2 := fun (W : World) (hW : PowTab W) => cString_any 2 0 s ⟨#[120]⟩ ⟨#[]⟩ W (fun h => by omega) hW (by rw [wr 2 (by omega)]; omega)
  rw [wr 2 (by omega)] at cs1
  rw [wr 2 (by omega)] at cs2
  have CS1 := Lib.hid cs1
  have CS2 := Lib.hid cs2
  have cn2 : ∀ W, Calls Tryz.prog 31 #[.agg #[.int .i64 2, .float .f64 0, .string s]] W fun e w' => e = .returned (.float .f64 nx) ∧ Below W.heap.size W w' := fun W => by
    have h := cNumber_any 2 0 s W (by omega)
    unfold numV2 at h
    rw [if_neg (by decide), if_pos rfl, hnx] at h
    exact h
  have CN2 := Lib.hid cn2
  have CM := Lib.hid (fun W => same_true nx nx W (by rw [← hnx]; exact preN_lt _) (by rw [← hnx]; exact preN_lt _) rfl)
  have cl := fun W => rlooks_any s W hs
  rw [hva] at cl
  have CL := Lib.hid cl
  have CT2 := Lib.hid (fun W => cTrue_str 0 s e W he.symm)
  have HE := Lib.hid he
  have HT := Lib.hid (Lib.tabBelow_of_tabIs hT)
  have hz : decide (3000 < (s.size : Int)) = false := decide_eq_false (by omega)
  clear ci cs1 cs2 cn2 cl hT he wr hnx hva
  go_enter Tryz.func8, Tryz.ntmps8
  go_wp2_with fail
  refine CF.out.mono ?_
  rintro e w0 ⟨rfl, hB0⟩
  go_wp2_with (first | omega | simp only)
  refine (CI.out _).mono ?_
  rintro e w1 ⟨rfl, h1⟩
  have hB1 := hB0.trans (h1.mono hB0.size)
  clear h1 hB0
  have hst := run_store_float
  go_wp2_with fail
  have fA := Five.new w1 #[.int .i64 2, .float .f64 0, .string s] 52
  have hA := hB1.alloc hB1.size (.cells #[.int .i64 2, .float .f64 0, .string s] 52)
  obtain ⟨W2, hW2⟩ : ∃ W2, w1.alloc (.cells #[.int .i64 2, .float .f64 0, .string s] 52) = W2 := ⟨_, rfl⟩
  obtain ⟨B, hB⟩ : ∃ B, w1.heap.size = B := ⟨_, rfl⟩
  rw [hW2] at fA hA
  rw [hB] at fA
  rw [hW2, hB]
  refine (TB.out _).mono ?_
  rintro e w3 ⟨rfl, h3⟩
  have fA3 := fA.below h3
  have hA3 := hA.trans (h3.mono hA.size)
  clear h3 fA hA hB1 hB hW2
  have fA4 := fA3.alloc (.cells #[.int .i64 2, .float .f64 0, .string s] 52)
  have fB4 := Five.new w3 #[.int .i64 2, .float .f64 0, .string s] 52
  have hB4 := hA3.alloc hA3.size (.cells #[.int .i64 2, .float .f64 0, .string s] 52)
  have a0 := fA4.cell 0
  have a1 := fA4.cell 1
  have a2 := fA4.cell 2
  obtain ⟨W4, hW4⟩ : ∃ W4, w3.alloc (.cells #[.int .i64 2, .float .f64 0, .string s] 52) = W4 := ⟨_, rfl⟩
  obtain ⟨B2, hB2⟩ : ∃ B2, w3.heap.size = B2 := ⟨_, rfl⟩
  rw [hW4] at fA4 fB4 hB4
  rw [hB2] at fB4
  have HW4 := Lib.hid hW4
  have HB2 := Lib.hid hB2
  have FA := Lib.hid fA4
  have FB := Lib.hid fB4
  have HB4 := Lib.hid hB4
  clear hW4 hB2 fA4 fB4 hB4 fA3 hA3
  go_wp2_with fail
  clear a0 a1 a2
  rw [HW4.out, HB2.out]
  have HCW := Lib.hid (fun (W : World) (h : Below W4.heap.size W4 W) => (show W.cell? ⟨B, 0, none⟩ = some (.int .i64 2) ∧ W.cell? ⟨B, 1, none⟩ = some (.float .f64 0) ∧ W.cell? ⟨B, 2, none⟩ = some (.string s) ∧ W.cell? ⟨B2, 0, none⟩ = some (.int .i64 2) ∧ W.cell? ⟨B2, 1, none⟩ = some (.float .f64 0) ∧ W.cell? ⟨B2, 2, none⟩ = some (.string s) from ⟨(FA.out.below h).cell 0, (FA.out.below h).cell 1, (FA.out.below h).cell 2, (FB.out.below h).cell 0, (FB.out.below h).cell 1, (FB.out.below h).cell 2⟩))
  have hR := Below.refl W4.heap.size W4
  obtain ⟨a0, a1, a2, a3, a4, a5⟩ := HCW.out W4 hR
  have HTW := Lib.hid (fun (W : World) (h : Below W4.heap.size W4 W) => HT.out W (HB4.out.trans (h.mono HB4.out.size)))
  clear hst
  refine (CV.out _).mono ?_
  rintro e X5 ⟨rfl, h⟩
  have b5 : Below W4.heap.size W4 X5 := ⟨h.os, h.tape, h.output, h.size, h.block⟩
  clear h a0 a1 a2 a3 a4 a5
  obtain ⟨a0, a1, a2, a3, a4, a5⟩ := HCW.out _ b5
  go_wp2_with fail
  refine (CV2.out _).mono ?_
  rintro e X6 ⟨rfl, h⟩
  have b6 : Below W4.heap.size W4 X6 := b5.trans ((⟨h.os, h.tape, h.output, h.size, h.block⟩ : Below X5.heap.size X5 X6).mono b5.size)
  clear h a0 a1 a2 a3 a4 a5
  obtain ⟨a0, a1, a2, a3, a4, a5⟩ := HCW.out _ b6
  go_wp2_with fail
  refine (CS1.out _ (HTW.out _ (by first | exact b6 | exact b6.drew | exact below_drewN b6 _))).mono ?_
  rintro e X7 ⟨rfl, h⟩
  have b7 : Below W4.heap.size W4 X7 := b6.trans ((⟨h.os, h.tape, h.output, h.size, h.block⟩ : Below X6.heap.size X6 X7).mono b6.size)
  clear h a0 a1 a2 a3 a4 a5
  obtain ⟨a0, a1, a2, a3, a4, a5⟩ := HCW.out _ b7
  go_wp2_with fail
  refine (CS2.out _ (HTW.out _ (by first | exact b7 | exact b7.drew | exact below_drewN b7 _))).mono ?_
  rintro e X8 ⟨rfl, h⟩
  have b8 : Below W4.heap.size W4 X8 := b7.trans ((⟨h.os, h.tape, h.output, h.size, h.block⟩ : Below X7.heap.size X7 X8).mono b7.size)
  clear h a0 a1 a2 a3 a4 a5
  obtain ⟨a0, a1, a2, a3, a4, a5⟩ := HCW.out _ b8
  go_wp2_with fail
  have hE := HE.out
  have hee : (s.toList = [] ∧ e = false) ∨ (s.toList.isEmpty = false ∧ e = true) := by
    rw [← hE, Lib.toList_data]
    cases s.data.toList with
    | nil => exact Or.inl ⟨rfl, rfl⟩
    | cons c t => exact Or.inr ⟨rfl, rfl⟩
  clear hE
  rcases hee with ⟨h1, rfl⟩ | ⟨h1, rfl⟩
  all_goals
    have S8 := HCW.out _ b8
    refine wp_region_noPanic ?_
    refine wp_region_held_drew (S := fun W => W.cell? ⟨B, 0, none⟩ = some (.int .i64 2) ∧ W.cell? ⟨B, 1, none⟩ = some (.float .f64 0) ∧ W.cell? ⟨B, 2, none⟩ = some (.string s) ∧ W.cell? ⟨B2, 0, none⟩ = some (.int .i64 2) ∧ W.cell? ⟨B2, 1, none⟩ = some (.float .f64 0) ∧ W.cell? ⟨B2, 2, none⟩ = some (.string s)) (by kernel_rfl) (HCW.out _ b8.drew) (fun hHeld => ?_)
    refine wpAnyH_take (i := 0) (oi := ({ dst := some 44, op := Op.load 52 (Operand.tmp 3), type := 52, pos := "law.go:90", after := #[], guard := none } : Oper)) (v := ?_) rfl (by kernel_rfl) (by kernel_rfl) (by kernel_rfl) (fun _ _ _ h => h) (Or.inl ⟨by rfl, ?_⟩) (by assumption) ?_
    rotate_left
    · intro w' hSw
      try dsimp only at hSw
      go_simp
      try with_reducible rfl
    try simp only [Act.put, List.setIfInBounds_toArray, List.set_cons_zero, List.set_cons_succ]
    refine wpAnyH_take (i := 2) (oi := ({ dst := some 46, op := Op.load 52 (Operand.tmp 4), type := 52, pos := "law.go:90", after := #[], guard := none } : Oper)) (v := ?_) rfl (by kernel_rfl) (by kernel_rfl) (by kernel_rfl) (fun _ _ _ h => h) (Or.inl ⟨by rfl, ?_⟩) (by assumption) ?_
    rotate_left
    · intro w' hSw
      try dsimp only at hSw
      go_simp
      try with_reducible rfl
    try simp only [Act.put, List.setIfInBounds_toArray, List.set_cons_zero, List.set_cons_succ]
    refine wpAnyH_ready (rs := [1]) (by kernel_rfl) (by simp) ?_
    refine AllReadyH.cons (o := ({ dst := some 45, op := Op.call { callee := Callee.value (Operand.func 31), args := #[Operand.tmp 44], argTypes := #[52] }, type := 39, pos := "law.go:90", after := #[{ on := 0, ground := Ground.data }], guard := none } : Oper)) rfl (fun K hK => ?_) AllReadyH.nil
    go_simp
    (with_reducible refine (CN2.out _).mono ?_)
    rintro e X9 ⟨rfl, h⟩
    have b9 : Below W4.heap.size W4 X9 := b8.trans ((⟨h.os, h.tape, h.output, h.size, h.block⟩ : Below X8.heap.size X8 X9).mono b8.size)
    have S9 := HCW.out _ b9
    clear h
    go_wp2_with fail
    refine hK.out _ _ (S9) (fun hHeld => ?_)
    clear hK K
    try simp only [Act.put, List.setIfInBounds_toArray, List.set_cons_zero, List.set_cons_succ]
    refine wpAnyH_ready (rs := [3]) (by kernel_rfl) (by simp) ?_
    refine AllReadyH.cons (o := ({ dst := some 47, op := Op.call { callee := Callee.value (Operand.func 31), args := #[Operand.tmp 46], argTypes := #[52] }, type := 39, pos := "law.go:90", after := #[{ on := 2, ground := Ground.data }, { on := 1, ground := Ground.chain }], guard := none } : Oper)) rfl (fun K hK => ?_) AllReadyH.nil
    go_simp
    (with_reducible refine (CN2.out _).mono ?_)
    rintro e X10 ⟨rfl, h⟩
    have b10 : Below W4.heap.size W4 X10 := b9.trans ((⟨h.os, h.tape, h.output, h.size, h.block⟩ : Below X9.heap.size X9 X10).mono b9.size)
    have S10 := HCW.out _ b10
    clear h
    go_wp2_with fail
    refine hK.out _ _ (S10) (fun hHeld => ?_)
    clear hK K
    try simp only [Act.put, List.setIfInBounds_toArray, List.set_cons_zero, List.set_cons_succ]
    refine wpAnyH_ready (rs := [4]) (by kernel_rfl) (by simp) ?_
    refine AllReadyH.cons (o := ({ dst := some 48, op := Op.call { callee := Callee.value (Operand.func 30), args := #[Operand.tmp 45, Operand.tmp 47], argTypes := #[39, 39] }, type := 4, pos := "law.go:90", after := #[{ on := 1, ground := Ground.data }, { on := 3, ground := Ground.data }, { on := 3, ground := Ground.chain }], guard := none } : Oper)) rfl (fun K hK => ?_) AllReadyH.nil
    go_simp
    (with_reducible refine (CM.out _).mono ?_)
    rintro e w' ⟨rfl, rfl⟩
    go_wp2_with fail
    refine hK.out _ _ (S10) (fun hHeld => ?_)
    clear hK K
    try simp only [Act.put, List.setIfInBounds_toArray, List.set_cons_zero, List.set_cons_succ]
    refine wpAnyH_take (i := 5) (oi := ({ dst := some 49, op := Op.move (Operand.tmp 48), type := 4, pos := "law.go:90", after := #[{ on := 4, ground := Ground.data }, { on := 4, ground := Ground.chain }], guard := none } : Oper)) (v := ?_) rfl (by kernel_rfl) (by kernel_rfl) (by kernel_rfl) (fun _ _ _ h => h) (Or.inl ⟨by rfl, ?_⟩) (by assumption) ?_
    rotate_left
    · intro w' hSw
      try dsimp only at hSw
      go_simp
      try with_reducible rfl
    try simp only [Act.put, List.setIfInBounds_toArray, List.set_cons_zero, List.set_cons_succ]
    refine wpAnyH_take (i := 6) (oi := ({ dst := some 50, op := Op.fieldAddr 52 (Operand.tmp 3) 0, type := 0, pos := "law.go:90", after := #[{ on := 5, ground := Ground.guard }], guard := some (5, true) } : Oper)) (v := ?_) rfl (by kernel_rfl) (by kernel_rfl) (by kernel_rfl) (fun _ _ _ h => h) (Or.inl ⟨by rfl, ?_⟩) (by assumption) ?_
    rotate_left
    · intro w' hSw
      try dsimp only at hSw
      go_simp
      try with_reducible rfl
    try simp only [Act.put, List.setIfInBounds_toArray, List.set_cons_zero, List.set_cons_succ]
    refine wpAnyH_take (i := 7) (oi := ({ dst := some 51, op := Op.load 50 (Operand.tmp 50), type := 50, pos := "law.go:90", after := #[{ on := 6, ground := Ground.data }, { on := 5, ground := Ground.guard }], guard := some (5, true) } : Oper)) (v := ?_) rfl (by kernel_rfl) (by kernel_rfl) (by kernel_rfl) (fun _ _ _ h => h) (Or.inl ⟨by rfl, ?_⟩) (by assumption) ?_
    rotate_left
    · intro w' hSw
      try dsimp only at hSw
      go_simp
      try with_reducible rfl
    try simp only [Act.put, List.setIfInBounds_toArray, List.set_cons_zero, List.set_cons_succ]
    refine wpAnyH_take (i := 8) (oi := ({ dst := some 52, op := Op.binOp BinOp.eql 50 (Operand.tmp 51) (Operand.const (Value.int IntKind.i64 3)) 50, type := 4, pos := "law.go:90", after := #[{ on := 7, ground := Ground.data }, { on := 5, ground := Ground.guard }], guard := some (5, true) } : Oper)) (v := ?_) rfl (by kernel_rfl) (by kernel_rfl) (by kernel_rfl) (fun _ _ _ h => h) (Or.inl ⟨by rfl, ?_⟩) (by assumption) ?_
    rotate_left
    · intro w' hSw
      try dsimp only at hSw
      go_simp
      try with_reducible rfl
    try simp only [Act.put, List.setIfInBounds_toArray, List.set_cons_zero, List.set_cons_succ]
    refine wpAnyH_take (i := 9) (oi := ({ dst := some 53, op := Op.move (Operand.tmp 0), type := 9, pos := "law.go:90", after := #[{ on := 5, ground := Ground.guard }], guard := some (5, true) } : Oper)) (v := ?_) rfl (by kernel_rfl) (by kernel_rfl) (by kernel_rfl) (fun _ _ _ h => h) (Or.inl ⟨by rfl, ?_⟩) (by assumption) ?_
    rotate_left
    · intro w' hSw
      try dsimp only at hSw
      go_simp
      try with_reducible rfl
    try simp only [Act.put, List.setIfInBounds_toArray, List.set_cons_zero, List.set_cons_succ]
    refine wpAnyH_ready (rs := [10]) (by kernel_rfl) (by simp) ?_
    refine AllReadyH.cons (o := ({ dst := some 54, op := Op.call { callee := Callee.value (Operand.func 32), args := #[Operand.tmp 53], argTypes := #[9] }, type := 4, pos := "law.go:90", after := #[{ on := 9, ground := Ground.data }, { on := 5, ground := Ground.chain }, { on := 5, ground := Ground.guard }], guard := some (5, true) } : Oper)) rfl (fun K hK => ?_) AllReadyH.nil
    go_simp
    (with_reducible refine (CL.out _).mono ?_)
    rintro e X11 ⟨rfl, h⟩
    have b11 : Below W4.heap.size W4 X11 := b10.trans ((⟨h.os, h.tape, h.output, h.size, h.block⟩ : Below X10.heap.size X10 X11).mono b10.size)
    have S11 := HCW.out _ b11
    clear h
    go_wp2_with fail
    refine hK.out _ _ (S11) (fun hHeld => ?_)
    clear hK K
    try simp only [Act.put, List.setIfInBounds_toArray, List.set_cons_zero, List.set_cons_succ]
    refine wpAnyH_take (i := 11) (oi := ({ dst := some 55, op := Op.binOp BinOp.eql 4 (Operand.tmp 52) (Operand.tmp 54) 4, type := 4, pos := "law.go:90", after := #[{ on := 8, ground := Ground.data }, { on := 10, ground := Ground.data }, { on := 5, ground := Ground.guard }], guard := some (5, true) } : Oper)) (v := ?_) rfl (by kernel_rfl) (by kernel_rfl) (by kernel_rfl) (fun _ _ _ h => h) (Or.inl ⟨by rfl, ?_⟩) (by assumption) ?_
    rotate_left
    · intro w' hSw
      try dsimp only at hSw
      go_simp
      try with_reducible rfl
    try simp only [Act.put, List.setIfInBounds_toArray, List.set_cons_zero, List.set_cons_succ]
    refine wpAnyH_take (i := 12) (oi := ({ dst := some 56, op := Op.pick (Operand.tmp 49) (Operand.tmp 55) (Operand.const (Value.bool false)), type := 4, pos := "law.go:90", after := #[{ on := 5, ground := Ground.data }, { on := 11, ground := Ground.data }], guard := none } : Oper)) (v := ?_) rfl (by kernel_rfl) (by kernel_rfl) (by kernel_rfl) (fun _ _ _ h => h) (Or.inl ⟨by rfl, ?_⟩) (by assumption) ?_
    rotate_left
    · intro w' hSw
      try dsimp only at hSw
      go_simp
      try with_reducible rfl
    try simp only [Act.put, List.setIfInBounds_toArray, List.set_cons_zero, List.set_cons_succ]
    refine wpAnyH_take (i := 13) (oi := ({ dst := some 57, op := Op.move (Operand.tmp 56), type := 4, pos := "law.go:90", after := #[{ on := 12, ground := Ground.data }, { on := 10, ground := Ground.chain }], guard := none } : Oper)) (v := ?_) rfl (by kernel_rfl) (by kernel_rfl) (by kernel_rfl) (fun _ _ _ h => h) (Or.inl ⟨by rfl, ?_⟩) (by assumption) ?_
    rotate_left
    · intro w' hSw
      try dsimp only at hSw
      go_simp
      try with_reducible rfl
    try simp only [Act.put, List.setIfInBounds_toArray, List.set_cons_zero, List.set_cons_succ]
    refine wpAnyH_take (i := 14) (oi := ({ dst := some 58, op := Op.load 52 (Operand.tmp 4), type := 52, pos := "law.go:90", after := #[{ on := 13, ground := Ground.guard }], guard := some (13, true) } : Oper)) (v := ?_) rfl (by kernel_rfl) (by kernel_rfl) (by kernel_rfl) (fun _ _ _ h => h) (Or.inl ⟨by rfl, ?_⟩) (by assumption) ?_
    rotate_left
    · intro w' hSw
      try dsimp only at hSw
      go_simp
      try with_reducible rfl
    try simp only [Act.put, List.setIfInBounds_toArray, List.set_cons_zero, List.set_cons_succ]
    refine wpAnyH_take (i := 16) (oi := ({ dst := some 60, op := Op.move (Operand.tmp 0), type := 9, pos := "law.go:90", after := #[{ on := 13, ground := Ground.guard }], guard := some (13, true) } : Oper)) (v := ?_) rfl (by kernel_rfl) (by kernel_rfl) (by kernel_rfl) (fun _ _ _ h => h) (Or.inl ⟨by rfl, ?_⟩) (by assumption) ?_
    rotate_left
    · intro w' hSw
      try dsimp only at hSw
      go_simp
      try with_reducible rfl
    try simp only [Act.put, List.setIfInBounds_toArray, List.set_cons_zero, List.set_cons_succ]
    refine wpAnyH_take (i := 17) (oi := ({ dst := some 61, op := Op.binOp BinOp.neq 9 (Operand.tmp 60) (Operand.const (Value.string { data := #[] })) 9, type := 4, pos := "law.go:90", after := #[{ on := 16, ground := Ground.data }, { on := 13, ground := Ground.guard }], guard := some (13, true) } : Oper)) (v := ?_) rfl (by kernel_rfl) (by kernel_rfl) (by kernel_rfl) (fun _ _ _ h => h) (Or.inl ⟨by rfl, ?_⟩) (by assumption) ?_
    rotate_left
    · intro w' hSw
      try dsimp only at hSw
      go_simp
      try with_reducible rfl
    try simp only [Act.put, List.setIfInBounds_toArray, List.set_cons_zero, List.set_cons_succ]
    refine wpAnyH_ready (rs := [15]) (by kernel_rfl) (by simp) ?_
    refine AllReadyH.cons (o := ({ dst := some 59, op := Op.call { callee := Callee.value (Operand.func 33), args := #[Operand.tmp 58], argTypes := #[52] }, type := 4, pos := "law.go:90", after := #[{ on := 14, ground := Ground.data }, { on := 13, ground := Ground.chain }, { on := 13, ground := Ground.guard }], guard := some (13, true) } : Oper)) rfl (fun K hK => ?_) AllReadyH.nil
    go_simp
    (with_reducible refine (CT2.out _).mono ?_)
    rintro e X12 ⟨rfl, h⟩
    have b12 : Below W4.heap.size W4 X12 := b11.trans ((⟨h.os, h.tape, h.output, h.size, h.block⟩ : Below X11.heap.size X11 X12).mono b11.size)
    have S12 := HCW.out _ b12
    clear h
    go_wp2_with fail
    refine hK.out _ _ (S12) (fun hHeld => ?_)
    clear hK K
    try simp only [Act.put, List.setIfInBounds_toArray, List.set_cons_zero, List.set_cons_succ]
    refine wpAnyH_take (i := 18) (oi := ({ dst := some 62, op := Op.binOp BinOp.eql 4 (Operand.tmp 59) (Operand.tmp 61) 4, type := 4, pos := "law.go:90", after := #[{ on := 15, ground := Ground.data }, { on := 17, ground := Ground.data }, { on := 13, ground := Ground.guard }], guard := some (13, true) } : Oper)) (v := ?_) rfl (by kernel_rfl) (by kernel_rfl) (by kernel_rfl) (fun _ _ _ h => h) (Or.inl ⟨by rfl, ?_⟩) (by assumption) ?_
    rotate_left
    · intro w' hSw
      try dsimp only at hSw
      go_simp
      try with_reducible rfl
    try simp only [Act.put, List.setIfInBounds_toArray, List.set_cons_zero, List.set_cons_succ]
    refine wpAnyH_take (i := 19) (oi := ({ dst := some 63, op := Op.pick (Operand.tmp 57) (Operand.tmp 62) (Operand.const (Value.bool false)), type := 4, pos := "law.go:90", after := #[{ on := 13, ground := Ground.data }, { on := 18, ground := Ground.data }], guard := none } : Oper)) (v := ?_) rfl (by kernel_rfl) (by kernel_rfl) (by kernel_rfl) (fun _ _ _ h => h) (Or.inl ⟨by rfl, ?_⟩) (by assumption) ?_
    rotate_left
    · intro w' hSw
      try dsimp only at hSw
      go_simp
      try with_reducible rfl
    try simp only [Act.put, List.setIfInBounds_toArray, List.set_cons_zero, List.set_cons_succ]
    refine wpAnyH_take (i := 20) (oi := ({ dst := some 64, op := Op.move (Operand.tmp 63), type := 4, pos := "law.go:90", after := #[{ on := 19, ground := Ground.data }, { on := 15, ground := Ground.chain }], guard := none } : Oper)) (v := ?_) rfl (by kernel_rfl) (by kernel_rfl) (by kernel_rfl) (fun _ _ _ h => h) (Or.inl ⟨by rfl, ?_⟩) (by assumption) ?_
    rotate_left
    · intro w' hSw
      try dsimp only at hSw
      go_simp
      try with_reducible rfl
    try simp only [Act.put, List.setIfInBounds_toArray, List.set_cons_zero, List.set_cons_succ]
    refine wpAnyH_take (i := 21) (oi := ({ dst := some 65, op := Op.fieldAddr 52 (Operand.tmp 3) 0, type := 0, pos := "law.go:90", after := #[{ on := 20, ground := Ground.guard }], guard := some (20, true) } : Oper)) (v := ?_) rfl (by kernel_rfl) (by kernel_rfl) (by kernel_rfl) (fun _ _ _ h => h) (Or.inl ⟨by rfl, ?_⟩) (by assumption) ?_
    rotate_left
    · intro w' hSw
      try dsimp only at hSw
      go_simp
      try with_reducible rfl
    try simp only [Act.put, List.setIfInBounds_toArray, List.set_cons_zero, List.set_cons_succ]
    refine wpAnyH_take (i := 22) (oi := ({ dst := some 66, op := Op.load 50 (Operand.tmp 65), type := 50, pos := "law.go:90", after := #[{ on := 21, ground := Ground.data }, { on := 20, ground := Ground.guard }], guard := some (20, true) } : Oper)) (v := ?_) rfl (by kernel_rfl) (by kernel_rfl) (by kernel_rfl) (fun _ _ _ h => h) (Or.inl ⟨by rfl, ?_⟩) (by assumption) ?_
    rotate_left
    · intro w' hSw
      try dsimp only at hSw
      go_simp
      try with_reducible rfl
    try simp only [Act.put, List.setIfInBounds_toArray, List.set_cons_zero, List.set_cons_succ]
    refine wpAnyH_take (i := 23) (oi := ({ dst := some 67, op := Op.binOp BinOp.neq 50 (Operand.tmp 66) (Operand.const (Value.int IntKind.i64 3)) 50, type := 4, pos := "law.go:90", after := #[{ on := 22, ground := Ground.data }, { on := 20, ground := Ground.guard }], guard := some (20, true) } : Oper)) (v := ?_) rfl (by kernel_rfl) (by kernel_rfl) (by kernel_rfl) (fun _ _ _ h => h) (Or.inl ⟨by rfl, ?_⟩) (by assumption) ?_
    rotate_left
    · intro w' hSw
      try dsimp only at hSw
      go_simp
      try with_reducible rfl
    try simp only [Act.put, List.setIfInBounds_toArray, List.set_cons_zero, List.set_cons_succ]
    refine wpAnyH_take (i := 24) (oi := ({ dst := some 68, op := Op.move (Operand.tmp 67), type := 4, pos := "law.go:90", after := #[{ on := 23, ground := Ground.data }, { on := 20, ground := Ground.chain }, { on := 20, ground := Ground.guard }], guard := some (20, true) } : Oper)) (v := ?_) rfl (by kernel_rfl) (by kernel_rfl) (by kernel_rfl) (fun _ _ _ h => h) (Or.inl ⟨by rfl, ?_⟩) (by assumption) ?_
    rotate_left
    · intro w' hSw
      try dsimp only at hSw
      go_simp
      try with_reducible rfl
    try simp only [Act.put, List.setIfInBounds_toArray, List.set_cons_zero, List.set_cons_succ]
    refine wpAnyH_take (i := 25) (oi := ({ dst := some 69, op := Op.load 52 (Operand.tmp 3), type := 52, pos := "law.go:90", after := #[{ on := 24, ground := Ground.guard }], guard := some (24, false) } : Oper)) (v := undef) rfl (by kernel_rfl) (by kernel_rfl) (by kernel_rfl) (fun _ _ _ h => h) (Or.inr ⟨by rfl, rfl⟩) (by assumption) ?_
    try simp only [Act.put, List.setIfInBounds_toArray, List.set_cons_zero, List.set_cons_succ]
    refine wpAnyH_take (i := 26) (oi := ({ dst := some 70, op := Op.call { callee := Callee.value (Operand.func 33), args := #[Operand.tmp 69], argTypes := #[52] }, type := 4, pos := "law.go:90", after := #[{ on := 25, ground := Ground.data }, { on := 24, ground := Ground.chain }, { on := 24, ground := Ground.guard }], guard := some (24, false) } : Oper)) (v := undef) rfl (by kernel_rfl) (by kernel_rfl) (by kernel_rfl) (fun _ _ _ h => h) (Or.inr ⟨by rfl, rfl⟩) (by assumption) ?_
    try simp only [Act.put, List.setIfInBounds_toArray, List.set_cons_zero, List.set_cons_succ]
    refine wpAnyH_take (i := 27) (oi := ({ dst := some 71, op := Op.fieldAddr 52 (Operand.tmp 3) 1, type := 0, pos := "law.go:90", after := #[{ on := 24, ground := Ground.guard }], guard := some (24, false) } : Oper)) (v := undef) rfl (by kernel_rfl) (by kernel_rfl) (by kernel_rfl) (fun _ _ _ h => h) (Or.inr ⟨by rfl, rfl⟩) (by assumption) ?_
    try simp only [Act.put, List.setIfInBounds_toArray, List.set_cons_zero, List.set_cons_succ]
    refine wpAnyH_take (i := 28) (oi := ({ dst := some 72, op := Op.load 39 (Operand.tmp 71), type := 39, pos := "law.go:90", after := #[{ on := 27, ground := Ground.data }, { on := 24, ground := Ground.guard }], guard := some (24, false) } : Oper)) (v := undef) rfl (by kernel_rfl) (by kernel_rfl) (by kernel_rfl) (fun _ _ _ h => h) (Or.inr ⟨by rfl, rfl⟩) (by assumption) ?_
    try simp only [Act.put, List.setIfInBounds_toArray, List.set_cons_zero, List.set_cons_succ]
    refine wpAnyH_take (i := 29) (oi := ({ dst := some 73, op := Op.binOp BinOp.neq 39 (Operand.tmp 72) (Operand.const (Value.float FloatKind.f64 0)) 39, type := 4, pos := "law.go:90", after := #[{ on := 28, ground := Ground.data }, { on := 24, ground := Ground.guard }], guard := some (24, false) } : Oper)) (v := undef) rfl (by kernel_rfl) (by kernel_rfl) (by kernel_rfl) (fun _ _ _ h => h) (Or.inr ⟨by rfl, rfl⟩) (by assumption) ?_
    try simp only [Act.put, List.setIfInBounds_toArray, List.set_cons_zero, List.set_cons_succ]
    refine wpAnyH_take (i := 30) (oi := ({ dst := some 74, op := Op.binOp BinOp.eql 4 (Operand.tmp 70) (Operand.tmp 73) 4, type := 4, pos := "law.go:90", after := #[{ on := 26, ground := Ground.data }, { on := 29, ground := Ground.data }, { on := 24, ground := Ground.guard }], guard := some (24, false) } : Oper)) (v := undef) rfl (by kernel_rfl) (by kernel_rfl) (by kernel_rfl) (fun _ _ _ h => h) (Or.inr ⟨by rfl, rfl⟩) (by assumption) ?_
    try simp only [Act.put, List.setIfInBounds_toArray, List.set_cons_zero, List.set_cons_succ]
    refine wpAnyH_take (i := 31) (oi := ({ dst := some 75, op := Op.pick (Operand.tmp 68) (Operand.const (Value.bool true)) (Operand.tmp 74), type := 4, pos := "law.go:90", after := #[{ on := 24, ground := Ground.data }, { on := 30, ground := Ground.data }, { on := 20, ground := Ground.guard }], guard := some (20, true) } : Oper)) (v := ?_) rfl (by kernel_rfl) (by kernel_rfl) (by kernel_rfl) (fun _ _ _ h => h) (Or.inl ⟨by rfl, ?_⟩) (by assumption) ?_
    rotate_left
    · intro w' hSw
      try dsimp only at hSw
      go_simp
      try with_reducible rfl
    try simp only [Act.put, List.setIfInBounds_toArray, List.set_cons_zero, List.set_cons_succ]
    refine wpAnyH_take (i := 32) (oi := ({ dst := some 76, op := Op.pick (Operand.tmp 64) (Operand.tmp 75) (Operand.const (Value.bool false)), type := 4, pos := "law.go:90", after := #[{ on := 20, ground := Ground.data }, { on := 31, ground := Ground.data }], guard := none } : Oper)) (v := ?_) rfl (by kernel_rfl) (by kernel_rfl) (by kernel_rfl) (fun _ _ _ h => h) (Or.inl ⟨by rfl, ?_⟩) (by assumption) ?_
    rotate_left
    · intro w' hSw
      try dsimp only at hSw
      go_simp
      try with_reducible rfl
    try simp only [Act.put, List.setIfInBounds_toArray, List.set_cons_zero, List.set_cons_succ]
    refine wpAnyH_take (i := 33) (oi := ({ dst := some 2, op := Op.assign (Operand.tmp 76), type := 4, pos := "law.go:90", after := #[{ on := 32, ground := Ground.data }, { on := 26, ground := Ground.chain }, { on := 0, ground := Ground.phase }, { on := 1, ground := Ground.phase }, { on := 2, ground := Ground.phase }, { on := 3, ground := Ground.phase }, { on := 4, ground := Ground.phase }, { on := 5, ground := Ground.phase }, { on := 6, ground := Ground.phase }, { on := 7, ground := Ground.phase }, { on := 8, ground := Ground.phase }, { on := 9, ground := Ground.phase }, { on := 10, ground := Ground.phase }, { on := 11, ground := Ground.phase }, { on := 12, ground := Ground.phase }, { on := 13, ground := Ground.phase }, { on := 14, ground := Ground.phase }, { on := 15, ground := Ground.phase }, { on := 16, ground := Ground.phase }, { on := 17, ground := Ground.phase }, { on := 18, ground := Ground.phase }, { on := 19, ground := Ground.phase }, { on := 20, ground := Ground.phase }, { on := 21, ground := Ground.phase }, { on := 22, ground := Ground.phase }, { on := 23, ground := Ground.phase }, { on := 24, ground := Ground.phase }, { on := 25, ground := Ground.phase }, { on := 26, ground := Ground.phase }, { on := 27, ground := Ground.phase }, { on := 28, ground := Ground.phase }, { on := 29, ground := Ground.phase }, { on := 30, ground := Ground.phase }, { on := 31, ground := Ground.phase }, { on := 32, ground := Ground.phase }], guard := none } : Oper)) (v := ?_) rfl (by kernel_rfl) (by kernel_rfl) (by kernel_rfl) (fun _ _ _ h => h) (Or.inl ⟨by rfl, ?_⟩) (by assumption) ?_
    rotate_left
    · intro w' hSw
      try dsimp only at hSw
      go_simp
      try with_reducible rfl
    try simp only [Act.put, List.setIfInBounds_toArray, List.set_cons_zero, List.set_cons_succ]
    refine wpAnyH_done (by kernel_rfl) ?_ _
    refine NoPanic.normal ?_
    all_goals
      have hBf := HB4.out.trans (b12.mono HB4.out.size)
      go_wp2_with fail
      go_ret
      exact ⟨rfl, by first | exact hBf | exact ⟨hBf.os, hBf.tape, hBf.output, hBf.size, hBf.block⟩⟩
set_option maxRecDepth 100000 in
set_option maxHeartbeats 16000000 in
theorem cellInput_num (e : Bool) (nx : Nat) (s : ByteArray) (w : World) (hT : PowTab w) (hs : s.size ≤ 3000) (hnx : preN s.data.toList = nx) (hva : looksL s.data.toList = true)
    (he : (!s.data.toList.isEmpty) = e) :
    Calls Tryz.prog 8 #[.string s] w fun e w' => e = .returned (.bool true) ∧ Below w.heap.size w w' := by
  have CF := Lib.hid (cfixed_any w hT)
  have ci : ∀ W, Calls Tryz.prog 26 #[.string s] W fun e w' => e = .returned (.agg #[.int .i64 3, .float .f64 nx, .string s]) ∧ Below W.heap.size W w' := fun W => cInput_any s true nx W (by omega) hva hnx
  have CI := Lib.hid ci
  have TB := Lib.hid (fun W => cText_any s W (by omega))
  have CV := Lib.hid (fun W => cValid_num s nx W (by omega) hva hnx)
  have CV2 := Lib.hid (fun W => cValid_str s W)
  have wr : ∀ (l : Int), l = 2 ∨ l = 3 → wrT l s ⟨#[]⟩ = s := fun l h => by
    unfold wrT
    rw [if_neg (by omega), if_pos h]
  have cs1 := fun (W : World) (hW : PowTab W) => cString_any 3 nx s ⟨#[120]⟩ ⟨#[]⟩ W (fun h => by omega) hW (by rw [wr 3 (by omega)]; omega)
  have cs2 := fun (W : World) (hW : PowTab W) => cString_any 2 0 s ⟨#[120]⟩ ⟨#[]⟩ W (fun h => by omega) hW (by rw [wr 2 (by omega)]; omega)
  rw [wr 3 (by omega)] at cs1
  rw [wr 2 (by omega)] at cs2
  have CS1 := Lib.hid cs1
  have CS2 := Lib.hid cs2
  have cn2 : ∀ W, Calls Tryz.prog 31 #[.agg #[.int .i64 2, .float .f64 0, .string s]] W fun e w' => e = .returned (.float .f64 nx) ∧ Below W.heap.size W w' := fun W => by
    have h := cNumber_any 2 0 s W (by omega)
    unfold numV2 at h
    rw [if_neg (by decide), if_pos rfl, hnx] at h
    exact h
  have CN2 := Lib.hid cn2
  have cn1 : ∀ W, Calls Tryz.prog 31 #[.agg #[.int .i64 3, .float .f64 nx, .string s]] W fun e w' => e = .returned (.float .f64 nx) ∧ Below W.heap.size W w' := fun W => by
    have h := cNumber_any 3 nx s W (by omega)
    unfold numV2 at h
    rw [if_pos (Or.inr rfl)] at h
    exact h
  have CN1 := Lib.hid cn1
  clear cn1
  have CM := Lib.hid (fun W => same_true nx nx W (by rw [← hnx]; exact preN_lt _) (by rw [← hnx]; exact preN_lt _) rfl)
  have cl := fun W => rlooks_any s W hs
  rw [hva] at cl
  have CL := Lib.hid cl
  have CT2 := Lib.hid (fun W => cTrue_str 0 s e W he.symm)
  have CTN := Lib.hid (fun W => cTrue_num 3 nx s W (Or.inr rfl))
  have HE := Lib.hid he
  have HT := Lib.hid (Lib.tabBelow_of_tabIs hT)
  have hz : decide (3000 < (s.size : Int)) = false := decide_eq_false (by omega)
  clear ci cs1 cs2 cn2 cl hT he wr hnx hva
  go_enter Tryz.func8, Tryz.ntmps8
  go_wp2_with fail
  refine CF.out.mono ?_
  rintro e w0 ⟨rfl, hB0⟩
  go_wp2_with (first | omega | simp only)
  refine (CI.out _).mono ?_
  rintro e w1 ⟨rfl, h1⟩
  have hB1 := hB0.trans (h1.mono hB0.size)
  clear h1 hB0
  have hst := run_store_float
  go_wp2_with fail
  have fA := Five.new w1 #[.int .i64 3, .float .f64 nx, .string s] 52
  have hA := hB1.alloc hB1.size (.cells #[.int .i64 3, .float .f64 nx, .string s] 52)
  obtain ⟨W2, hW2⟩ : ∃ W2, w1.alloc (.cells #[.int .i64 3, .float .f64 nx, .string s] 52) = W2 := ⟨_, rfl⟩
  obtain ⟨B, hB⟩ : ∃ B, w1.heap.size = B := ⟨_, rfl⟩
  rw [hW2] at fA hA
  rw [hB] at fA
  rw [hW2, hB]
  refine (TB.out _).mono ?_
  rintro e w3 ⟨rfl, h3⟩
  have fA3 := fA.below h3
  have hA3 := hA.trans (h3.mono hA.size)
  clear h3 fA hA hB1 hB hW2
  have fA4 := fA3.alloc (.cells #[.int .i64 2, .float .f64 0, .string s] 52)
  have fB4 := Five.new w3 #[.int .i64 2, .float .f64 0, .string s] 52
  have hB4 := hA3.alloc hA3.size (.cells #[.int .i64 2, .float .f64 0, .string s] 52)
  have a0 := fA4.cell 0
  have a1 := fA4.cell 1
  have a2 := fA4.cell 2
  obtain ⟨W4, hW4⟩ : ∃ W4, w3.alloc (.cells #[.int .i64 2, .float .f64 0, .string s] 52) = W4 := ⟨_, rfl⟩
  obtain ⟨B2, hB2⟩ : ∃ B2, w3.heap.size = B2 := ⟨_, rfl⟩
  rw [hW4] at fA4 fB4 hB4
  rw [hB2] at fB4
  have HW4 := Lib.hid hW4
  have HB2 := Lib.hid hB2
  have FA := Lib.hid fA4
  have FB := Lib.hid fB4
  have HB4 := Lib.hid hB4
  clear hW4 hB2 fA4 fB4 hB4 fA3 hA3
  go_wp2_with fail
  clear a0 a1 a2
  rw [HW4.out, HB2.out]
  have HCW := Lib.hid (fun (W : World) (h : Below W4.heap.size W4 W) => (show W.cell? ⟨B, 0, none⟩ = some (.int .i64 3) ∧ W.cell? ⟨B, 1, none⟩ = some (.float .f64 nx) ∧ W.cell? ⟨B, 2, none⟩ = some (.string s) ∧ W.cell? ⟨B2, 0, none⟩ = some (.int .i64 2) ∧ W.cell? ⟨B2, 1, none⟩ = some (.float .f64 0) ∧ W.cell? ⟨B2, 2, none⟩ = some (.string s) from ⟨(FA.out.below h).cell 0, (FA.out.below h).cell 1, (FA.out.below h).cell 2, (FB.out.below h).cell 0, (FB.out.below h).cell 1, (FB.out.below h).cell 2⟩))
  have hR := Below.refl W4.heap.size W4
  obtain ⟨a0, a1, a2, a3, a4, a5⟩ := HCW.out W4 hR
  have HTW := Lib.hid (fun (W : World) (h : Below W4.heap.size W4 W) => HT.out W (HB4.out.trans (h.mono HB4.out.size)))
  clear hst
  refine (CV.out _).mono ?_
  rintro e X5 ⟨rfl, h⟩
  have b5 : Below W4.heap.size W4 X5 := ⟨h.os, h.tape, h.output, h.size, h.block⟩
  clear h a0 a1 a2 a3 a4 a5
  obtain ⟨a0, a1, a2, a3, a4, a5⟩ := HCW.out _ b5
  go_wp2_with fail
  refine (CV2.out _).mono ?_
  rintro e X6 ⟨rfl, h⟩
  have b6 : Below W4.heap.size W4 X6 := b5.trans ((⟨h.os, h.tape, h.output, h.size, h.block⟩ : Below X5.heap.size X5 X6).mono b5.size)
  clear h a0 a1 a2 a3 a4 a5
  obtain ⟨a0, a1, a2, a3, a4, a5⟩ := HCW.out _ b6
  go_wp2_with fail
  refine (CS1.out _ (HTW.out _ (by first | exact b6 | exact b6.drew | exact below_drewN b6 _))).mono ?_
  rintro e X7 ⟨rfl, h⟩
  have b7 : Below W4.heap.size W4 X7 := b6.trans ((⟨h.os, h.tape, h.output, h.size, h.block⟩ : Below X6.heap.size X6 X7).mono b6.size)
  clear h a0 a1 a2 a3 a4 a5
  obtain ⟨a0, a1, a2, a3, a4, a5⟩ := HCW.out _ b7
  go_wp2_with fail
  refine (CS2.out _ (HTW.out _ (by first | exact b7 | exact b7.drew | exact below_drewN b7 _))).mono ?_
  rintro e X8 ⟨rfl, h⟩
  have b8 : Below W4.heap.size W4 X8 := b7.trans ((⟨h.os, h.tape, h.output, h.size, h.block⟩ : Below X7.heap.size X7 X8).mono b7.size)
  clear h a0 a1 a2 a3 a4 a5
  obtain ⟨a0, a1, a2, a3, a4, a5⟩ := HCW.out _ b8
  go_wp2_with fail
  have hE := HE.out
  have hee : (s.toList = [] ∧ e = false) ∨ (s.toList.isEmpty = false ∧ e = true) := by
    rw [← hE, Lib.toList_data]
    cases s.data.toList with
    | nil => exact Or.inl ⟨rfl, rfl⟩
    | cons c t => exact Or.inr ⟨rfl, rfl⟩
  clear hE
  rcases hee with ⟨h1, rfl⟩ | ⟨h1, rfl⟩
  all_goals
    have S8 := HCW.out _ b8
    have hz0 : (FloatKind.f64.format.order nx 0 != some .eq) = nzB nx := rfl
    go_region_held3 (fun W => W.cell? ⟨B, 0, none⟩ = some (.int .i64 3) ∧ W.cell? ⟨B, 1, none⟩ = some (.float .f64 nx) ∧ W.cell? ⟨B, 2, none⟩ = some (.string s) ∧ W.cell? ⟨B2, 0, none⟩ = some (.int .i64 2) ∧ W.cell? ⟨B2, 1, none⟩ = some (.float .f64 0) ∧ W.cell? ⟨B2, 2, none⟩ = some (.string s))
      (first | (with_reducible exact S13) | (with_reducible exact S12) | (with_reducible exact S11) | (with_reducible exact S10) | (with_reducible exact S9) | (with_reducible exact S8) | go_keep)
      (first
      | (go_at_call 31; (with_reducible refine (CN1.out _).mono ?_); rintro e X9 ⟨rfl, h⟩; have b9 : Below W4.heap.size W4 X9 := b8.trans ((⟨h.os, h.tape, h.output, h.size, h.block⟩ : Below X8.heap.size X8 X9).mono b8.size); have S9 := HCW.out _ b9; clear h)
      | (go_at_call 31; (with_reducible refine (CN2.out _).mono ?_); rintro e X10 ⟨rfl, h⟩; have b10 : Below W4.heap.size W4 X10 := b9.trans ((⟨h.os, h.tape, h.output, h.size, h.block⟩ : Below X9.heap.size X9 X10).mono b9.size); have S10 := HCW.out _ b10; clear h)
      | (go_at_call 30; (with_reducible refine (CM.out _).mono ?_); rintro e w' ⟨rfl, rfl⟩)
      | (go_at_call 32; (with_reducible refine (CL.out _).mono ?_); rintro e X11 ⟨rfl, h⟩; have b11 : Below W4.heap.size W4 X11 := b10.trans ((⟨h.os, h.tape, h.output, h.size, h.block⟩ : Below X10.heap.size X10 X11).mono b10.size); have S11 := HCW.out _ b11; clear h)
      | (go_at_call 33; (with_reducible refine (CT2.out _).mono ?_); rintro e X12 ⟨rfl, h⟩; have b12 : Below W4.heap.size W4 X12 := b11.trans ((⟨h.os, h.tape, h.output, h.size, h.block⟩ : Below X11.heap.size X11 X12).mono b11.size); have S12 := HCW.out _ b12; clear h)
      | (go_at_call 33; (with_reducible refine (CTN.out _).mono ?_); rintro e X13 ⟨rfl, h⟩; have b13 : Below W4.heap.size W4 X13 := b12.trans ((⟨h.os, h.tape, h.output, h.size, h.block⟩ : Below X12.heap.size X12 X13).mono b12.size); have S13 := HCW.out _ b13; clear h))
    all_goals
      have hBf := HB4.out.trans (b13.mono HB4.out.size)
      go_wp2_with fail
      go_ret
      exact ⟨rfl, by first | exact hBf | exact ⟨hBf.os, hBf.tape, hBf.output, hBf.size, hBf.block⟩⟩
set_option maxRecDepth 100000 in
set_option maxHeartbeats 8000000 in
theorem cellInput_any (s : ByteArray) (w : World) (hT : PowTab w) : Calls Tryz.prog 8 #[.string s] w fun e w' => e = .returned (.bool true) ∧ Below w.heap.size w w' := by
  by_cases hs : s.size ≤ 3000
  · cases h : looksL s.data.toList with
    | false => exact cellInput_str _ _ s w hT hs rfl h rfl
    | true => exact cellInput_num _ _ s w hT hs rfl h rfl
  · have CF := Lib.hid (cfixed_any w hT)
    have hz : decide (3000 < (s.size : Int)) = true := decide_eq_true (by omega)
    clear hT
    go_enter Tryz.func8, Tryz.ntmps8
    go_wp2_with (first | omega | simp only)
    refine CF.out.mono ?_
    rintro e w0 ⟨rfl, hB0⟩
    go_wp2_with (first | omega | simp only)
    go_ret
    exact ⟨rfl, hB0⟩
end Go.Proofs.YtmceakbjholjpaaGreatDoor
