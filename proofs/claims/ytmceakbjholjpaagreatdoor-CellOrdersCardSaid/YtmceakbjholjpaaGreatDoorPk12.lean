/- Several texts in one (The definition of layer 4: Numeral, walked). -/
import Derived.Test.YtmceakbjholjpaaGreatDoorPk11
namespace Go.Proofs.YtmceakbjholjpaaGreatDoor
open Go.RowKit Go.Lib

/-- What stands behind the letter of an exponent: the sign, and where its digits begin. -/
inductive SKind (S : ByteArray) (k : Nat) : Bool → Nat → Prop
  | far (k' : Nat) (e : k = k') (h : S.size ≤ k) : SKind S k false k'
  | other (k' : Nat) (e : k = k') (hk : k < S.size) (h : (S[k]'hk).toNat ≠ 43 ∧ (S[k]'hk).toNat ≠ 45) : SKind S k false k'
  | plus (k' : Nat) (e : k + 1 = k') (hk : k < S.size) (h : (S[k]'hk).toNat = 43) : SKind S k false k'
  | minus (k' : Nat) (e : k + 1 = k') (hk : k < S.size) (h : (S[k]'hk).toNat = 45) : SKind S k true k'
/-- The exponent at a place, and where it ends. -/
inductive EKind (S : ByteArray) (q : Nat) : Int → Nat → Prop
  | far (x : Int) (en : Nat) (hx : Hid (x = 0)) (he : Hid (en = q)) (h : S.size ≤ q) : EKind S q x en
  | other (x : Int) (en : Nat) (hx : Hid (x = 0)) (he : Hid (en = q)) (hq : q < S.size) (h : (S[q]'hq).toNat ≠ 101 ∧ (S[q]'hq).toNat ≠ 69) : EKind S q x en
  | bare (x : Int) (en : Nat) (hx : Hid (x = 0)) (he : Hid (en = q)) (hq : q < S.size) (h : (S[q]'hq).toNat = 101 ∨ (S[q]'hq).toNat = 69) (b : Bool) (k : Nat) (hs : SKind S (q + 1) b k) (hd : digAt S.data.toList k = false) : EKind S q x en
  | num (x : Int) (en : Nat) (hq : q < S.size) (h : (S[q]'hq).toNat = 101 ∨ (S[q]'hq).toNat = 69) (b : Bool) (k c : Nat) (hs : SKind S (q + 1) b k) (hc : nDig (S.data.toList.drop k) = c) (hc0 : 0 < c)
      (hx : Hid (x = if b = true then -((min (pv ((S.data.toList.drop k).take c)) 100000 : Nat) : Int) else ((min (pv ((S.data.toList.drop k).take c)) 100000 : Nat) : Int))) (he : Hid (en = k + c)) : EKind S q x en
def RNum (w : World) (DS : List UInt8) (x : Int) (en : Nat) (e : Ending) (w' : World) : Prop :=
  ∃ r, e = .returned (.tuple #[.float .f64 r, .int .i64 (en : Int)]) ∧ Hid (Near (2 * (pv DS * 10 ^ x.toNat) * S1074) (10 ^ (-x).toNat) r) ∧ Below w.heap.size w w'
set_option maxRecDepth 100000 in
set_option maxHeartbeats 8000000 in
theorem rnum_none (S : ByteArray) (f a : Nat) (w : World) (hs9 : S.size ≤ 4000) (hfl : f ≤ S.size) (ha : nDig (S.data.toList.drop f) = a) (h0 : a = 0) (hN : S.size ≤ f ∨ (∃ hq : f < S.size, (S[f]'hq).toNat ≠ 46) ∨ (∃ hq : f < S.size, (S[f]'hq).toNat = 46 ∧ digAt S.data.toList (f + 1) = false)) :
    Calls Tryz.prog 104 #[.string S, .int .i64 (f : Int)] w (RNum w [] 0 f) := by
  obtain ⟨i0, hi, hz0, hz1, hz2⟩ := info_parts info_u8
  have hf := dig_run S.data.toList f
  rw [ha] at hf
  have Hf1 := Lib.hid hf.1
  have Hf2 := Lib.hid hf.2
  have hfs : f ≤ 4611686018427387904 := by omega
  have HZ := Lib.hid (show Near (2 * (pv [] * 10 ^ (0 : Int).toNat) * S1074) (10 ^ (-(0 : Int)).toNat) 0 by
    have e : 2 * (pv [] * 10 ^ (0 : Int).toNat) * S1074 = 0 := by rw [pv_nil, Nat.zero_mul, Nat.mul_zero, Nat.zero_mul]
    rw [e]
    exact near_zero (Nat.pow_pos (by omega)))
  have hdg : digAt S.data.toList f = false := by have h := Hf2.out; rw [h0] at h; exact h
  have CD := Lib.hid (fun W => isDigit_any S f W (by omega) (by omega))
  rw [hdg] at CD
  have CD1 := Lib.hid (fun W => isDigit_any S (f + 1) W (by omega) (by omega))
  clear hf hdg ha h0 Hf1 Hf2
  rcases hN with h | ⟨hq, h⟩ | ⟨hq, h, hd⟩
  · have t1 : ¬ (f : Int) < (S.size : Int) := by omega
    clear h CD1
    go_enter Tryz.func104, Tryz.ntmps104
    go_wp2_with fail
    go_loopw [6, 8, 9] (fun iv sv av wr => iv = .int .i64 (f : Int) ∧ sv = .bool false ∧ av = .slice none 0 0 ∧ wr = w) (fun _ _ _ _ => 0)
    case atStart => exact ⟨rfl, rfl, rfl, rfl⟩
    case round =>
      obtain ⟨rfl, rfl, rfl, rfl⟩ := hrel
      go_wp2_with fail
      refine (CD.out _).mono ?_
      rintro e w' ⟨rfl, rfl⟩
      go_wp2_with fail
      go_ret2
      exact ⟨0, rfl, HZ, Below.refl _ _⟩
  · obtain ⟨y, hy⟩ : ∃ y, (S[f]'hq).toNat = y := ⟨_, rfl⟩
    have hyi : (((S[f]'hq).toNat : Nat) : Int) = (y : Int) := by rw [hy]
    rw [hy] at h
    have t1 : (f : Int) < (S.size : Int) := by omega
    have u1 : ((y : Int) == 46) = false := by rw [beq_eq_false_iff_ne]; omega
    clear h hy CD1
    go_enter Tryz.func104, Tryz.ntmps104
    go_wp2_with fail
    go_loopw [6, 8, 9] (fun iv sv av wr => iv = .int .i64 (f : Int) ∧ sv = .bool false ∧ av = .slice none 0 0 ∧ wr = w) (fun _ _ _ _ => 0)
    case atStart => exact ⟨rfl, rfl, rfl, rfl⟩
    case round =>
      obtain ⟨rfl, rfl, rfl, rfl⟩ := hrel
      go_wp2_with fail
      refine (CD.out _).mono ?_
      rintro e w' ⟨rfl, rfl⟩
      go_wp2_with fail
      go_ret2
      exact ⟨0, rfl, HZ, Below.refl _ _⟩
  · obtain ⟨y, hy⟩ : ∃ y, (S[f]'hq).toNat = y := ⟨_, rfl⟩
    have hyi : (((S[f]'hq).toNat : Nat) : Int) = (y : Int) := by rw [hy]
    rw [hy] at h
    have t1 : (f : Int) < (S.size : Int) := by omega
    have u1 : ((y : Int) == 46) = true := by rw [beq_iff_eq]; omega
    rw [hd] at CD1
    clear h hy hd
    go_enter Tryz.func104, Tryz.ntmps104
    go_wp2_with fail
    go_loopw [6, 8, 9] (fun iv sv av wr => iv = .int .i64 (f : Int) ∧ sv = .bool false ∧ av = .slice none 0 0 ∧ wr = w) (fun _ _ _ _ => 0)
    case atStart => exact ⟨rfl, rfl, rfl, rfl⟩
    case round =>
      obtain ⟨rfl, rfl, rfl, rfl⟩ := hrel
      go_wp2_with fail
      refine (CD.out _).mono ?_
      rintro e w' ⟨rfl, rfl⟩
      go_wp2_with fail
      refine (CD1.out _).mono ?_
      rintro e w' ⟨rfl, rfl⟩
      go_wp2_with fail
      go_ret2
      exact ⟨0, rfl, HZ, Below.refl _ _⟩
set_option maxRecDepth 100000 in
set_option maxHeartbeats 8000000 in
theorem rnum_plain (S : ByteArray) (f a : Nat) (w : World) (hs9 : S.size ≤ 4000) (hfl : f ≤ S.size) (ha : nDig (S.data.toList.drop f) = a) (h0 : 0 < a) (hP : S.size ≤ f + a ∨ (∃ hq : f + a < S.size, (S[f + a]'hq).toNat ≠ 46)) (ex : Int) (en : Nat) (hE : EKind S (f + a) ex en) :
    Calls Tryz.prog 104 #[.string S, .int .i64 (f : Int)] w (RNum w ((S.data.toList.drop f).take a) (0 + ex) en) := by
  obtain ⟨i0, hi, hz0, hz1, hz2⟩ := info_parts info_u8
  have hf := dig_run S.data.toList f
  rw [ha] at hf
  have Hf1 := Lib.hid hf.1
  have Hf2 := Lib.hid hf.2
  have hfs : f ≤ 4611686018427387904 := by omega
  have hsome : decide (0 < a) = true := decide_eq_true h0
  have hal : a ≤ S.size := by rw [← ha]; have := nDig_le (S.data.toList.drop f); rw [List.length_drop, ba_len] at this; omega
  have HDd := Lib.hid (show Dec ((S.data.toList.drop f).take a) by rw [← ha, run_take]; exact dec_takeWhile _)
  obtain ⟨DS, hDS⟩ : ∃ DS, (S.data.toList.drop f).take a = DS := ⟨_, rfl⟩
  have hDSl : DS.length ≤ 4000 := by rw [← hDS, List.length_take, List.length_drop, ba_len]; omega
  rw [hDS] at HDd ⊢
  have HDS := Lib.hid hDS
  clear hf ha hDS
  go_enter Tryz.func104, Tryz.ntmps104
  go_wp2_with fail
  go_loopw [6, 8, 9] (fun iv sv av wr => ∃ (j m n9 : Nat) (v : Value), j ≤ a ∧ m = f + j ∧ iv = .int .i64 (m : Int) ∧ sv = .bool (decide (0 < j)) ∧ av = v ∧ n9 = ((S.data.toList.drop f).take j).length ∧ Own .u8 wr w.heap.size 5 v (cod ((S.data.toList.drop f).take j)) ∧ Below w.heap.size w wr) (fun iv _ _ _ => f + a - (RowKit.intOf iv).toNat)
  case atStart => exact ⟨0, f, 0, _, by omega, by omega, rfl, rfl, rfl, by rw [List.take_zero]; rfl, by rw [List.take_zero]; exact Own.nil _ _ _, Below.refl _ _⟩
  case round =>
    try clear hB
    obtain ⟨j, m, n9, av, hj, hm, rfl, rfl, rfl, hn9, hO, hB⟩ := hrel
    by_cases hlt : j < a
    · have hdg : digAt S.data.toList m = true := by rw [hm]; exact Hf1.out j hlt
      have hms : m < S.size := by have := digAt_lt hdg; rw [ba_len] at this; exact this
      have CD := Lib.hid (fun W => isDigit_any S m W (by omega) (by omega))
      rw [hdg] at CD
      obtain ⟨z, hz⟩ : ∃ z, (S[m]'hms).toNat = z := ⟨_, rfl⟩
      have hzi : (((S[m]'hms).toNat : Nat) : Int) = (z : Int) := by rw [hz]
      have hzD : 48 ≤ z ∧ z ≤ 57 := by
        have hl : m < S.data.toList.length := by rw [ba_len]; exact hms
        rw [digAt_at hl] at hdg
        have hb := ba_byte S rfl m hms
        rw [List.getElem?_eq_getElem hl] at hb
        rw [Option.some.inj hb] at hdg
        have := isD_iff.1 hdg
        rw [hz] at this
        exact this
      obtain ⟨L, hL⟩ : ∃ L, (S.data.toList.drop f).take j = L := ⟨_, rfl⟩
      rw [hL] at hO hn9
      have hcz : cod L ++ [z] = cod ((S.data.toList.drop f).take (j + 1)) := by
        have hl : f + j < S.data.toList.length := by rw [ba_len, ← hm]; exact hms
        have hb := ba_byte S rfl m hms
        rw [run_snoc hl, hL]
        have e : S.data.toList[f + j] = S[m]'hms := by
          subst hm
          rw [List.getElem?_eq_getElem hl] at hb
          exact Option.some.inj hb
        rw [e]
        unfold cod
        rw [List.map_append]
        show _ = _ ++ [(S[m]'hms).toNat]
        rw [hz]
      have hLl : L.length ≤ 100000 := by
        rw [← hL]
        simp only [List.length_take, List.length_drop, ba_len]
        omega
      have hlen1 : n9 + 1 = ((S.data.toList.drop f).take (j + 1)).length := by
        have h := congrArg List.length hcz
        rw [List.length_append, cod_len, cod_len] at h
        rw [← h, hn9]
        rfl
      have HLN := Lib.hid hlen1
      clear hlen1
      obtain ⟨A9, c9, rfl, hc91, hc92⟩ := hO.slice
      have hown := hO.row (n := n9) (by rw [cod_len]; exact hn9.symm)
      rw [cod_len, ← hn9] at hown ⊢
      have hn99 : n9 ≤ 100000 := by omega
      have HM := Lib.hid hm
      have HN9 := Lib.hid hn9
      clear hO hL hz hdg hm hc91 hc92 hn9
      go_wp2_with fail
      refine (CD.out _).mono ?_
      rintro e w' ⟨rfl, rfl⟩
      have hsz9 := hB.size
      go_wp2_with (at_builtin; refine wpList_append_own _ rfl _ _ 138 rfl w.heap.size 5 i0 (.int .u8 0) 1 1 Tryz.underlying138 hi hz0 hz1 hz2 rfl (by decide) _ _ _ rfl (hown.alloc _) ⟨wr.heap.size, 0, none⟩ 1 1 [.int .u8 (z : Int)] rfl rfl (cell_one_new _ _ _) ?Pf2 ?Pf3 ?Pf4 ?Pf5 ?_)
      case Pf2 => simp [Value.oneCell']
      case Pf3 => unfold maxLen; omega
      case Pf4 => omega
      case Pf5 => first | omega | (simp; omega)
      intro v1 w1 hown1 hgrow1 _
      have hO1 : Own .u8 w1 w.heap.size 5 v1 (cod L ++ [z]) := Own.snoc hown1 (by rw [cod_len]; exact HN9.out)
      have hB1 := (hB.alloc hB.size _).grown hgrow1 (by simp; have := hB.size; omega) (fun z e => (World.ownsRow.lt hown z e).1)
      rw [hcz] at hO1
      have HO1 := Lib.hid hO1
      have HB1 := Lib.hid hB1
      clear hown hown1 hgrow1 hO1 hB1 hcz
      go_wp2_with fail
      go_roundw
      case rel => exact ⟨j + 1, m + 1, n9 + 1, v1, by omega, by rw [HM.out]; omega, by go_num, congrArg Value.bool (decide_eq_true (by omega)).symm, rfl, HLN.out, HO1.out, HB1.out⟩
      case measure =>
        have := HM.out
        simp [RowKit.intOf]
        omega
    · obtain rfl : a = j := by omega
      have hdg : digAt S.data.toList m = false := by rw [hm]; exact Hf2.out
      have CD := Lib.hid (fun W => isDigit_any S m W (by omega) (by omega))
      rw [hdg] at CD
      obtain ⟨A9, c9, rfl, hc91, hc92⟩ := hO.slice
      rw [cod_len, ← hn9] at hc91 ⊢
      rw [HDS.out] at hO hn9
      have HOR := Lib.hid hO.rd
      have HB := Lib.hid hB
      have hn94 : n9 ≤ 100000 := by rw [hn9, show DS.length = DS.length from rfl]; omega
      have CV := Lib.hid (fun (x : Int) (h0 : -1000000 ≤ x) (h9 : x ≤ 1000000) => rvalue_any A9 n9 c9 (DS) x wr hn9.symm hn94 hc91 (by unfold maxLen at hc92; omega) h0 h9 (HDd.out) HOR.out)
      rw [hsome]
      subst hm
      obtain ⟨m, hm⟩ : ∃ m, f + a = m := ⟨_, rfl⟩
      rw [hm] at hP hE CD ⊢
      clear hO hB hn9 hDSl hc91 hc92 hdg hm
      rcases hP with h | ⟨hq, h⟩
      · have p1 : ¬ (m : Int) < (S.size : Int) := by omega
        go_wp2_with fail
        refine (CD.out _).mono ?_
        rintro e w' ⟨rfl, rfl⟩
        cases hE with
        | far hx he h =>
          have t1 : ¬ (m : Int) < (S.size : Int) := by omega
          go_wp2_with fail
          refine (CV.out (0) (by omega) (by omega)).mono ?_
          rintro e w3 ⟨r, rfl, hr, hB3⟩
          have hB4 := HB.out.trans (hB3.mono HB.out.size)
          go_wp2_with fail
          go_ret2
          exact ⟨r, by rw [he.out]; rfl, by rw [hx.out, Int.add_zero]; exact hr, hB4⟩
        | other hx he hq h =>
          exact absurd hq (by omega)
        | bare hx he hq h b0 k hs hd =>
          exact absurd hq (by omega)
        | num hq h b0 k c hs hc hc0 hx he =>
          exact absurd hq (by omega)
      · obtain ⟨y0, hy0⟩ : ∃ y, (S[m]'hq).toNat = y := ⟨_, rfl⟩
        have hyi0 : (((S[m]'hq).toNat : Nat) : Int) = (y0 : Int) := by rw [hy0]
        have p1 : (m : Int) < (S.size : Int) := by omega
        have p2 : ((y0 : Int) == 46) = false := by rw [beq_eq_false_iff_ne]; omega
        clear h
        go_wp2_with fail
        refine (CD.out _).mono ?_
        rintro e w' ⟨rfl, rfl⟩
        cases hE with
        | far hx he h =>
          exact absurd h (by omega)
        | other hx he hq h =>
          rw [hy0] at h
          obtain ⟨o1, o2⟩ := h
          have t1 : (m : Int) < (S.size : Int) := by omega
          have u1 : ((y0 : Int) == 101) = false := by rw [beq_eq_false_iff_ne]; omega
          have u2 : ((y0 : Int) == 69) = false := by rw [beq_eq_false_iff_ne]; omega
          clear o1 o2 hy0
          go_wp2_with fail
          refine (CV.out (0) (by omega) (by omega)).mono ?_
          rintro e w3 ⟨r, rfl, hr, hB3⟩
          have hB4 := HB.out.trans (hB3.mono HB.out.size)
          go_wp2_with fail
          go_ret2
          exact ⟨r, by rw [he.out]; rfl, by rw [hx.out, Int.add_zero]; exact hr, hB4⟩
        | bare hx he hq h b0 k hs hd =>
          rw [hy0] at h
          have hE2 : ((y0 : Int) == 101) = true ∨ (((y0 : Int) == 101) = false ∧ ((y0 : Int) == 69) = true) := by
            rcases h with h | h
            · left; rw [beq_iff_eq]; omega
            · right; rw [beq_eq_false_iff_ne, beq_iff_eq]; omega
          clear h hy0
          have t1 : (m : Int) < (S.size : Int) := by omega
          obtain ⟨m1, hm1⟩ : ∃ m1, m + 1 = m1 := ⟨_, rfl⟩
          have hk0 : (m : Int) + 1 = (m1 : Int) := by omega
          rw [hm1] at hs
          rcases hE2 with u1 | ⟨u1, u2⟩
          all_goals
            cases hs with
            | far _ e h2 =>
              subst e
              have hkl : ¬ (m1 : Int) < (S.size : Int) := by omega
              clear hm1
              have CD2 := Lib.hid (fun W => isDigit_any S (m1) W (by omega) (by omega))
              rw [hd] at CD2
              go_wp2_with fail
              refine (CD2.out _).mono ?_
              rintro e w' ⟨rfl, rfl⟩
              go_wp2_with fail
              refine (CV.out (0) (by omega) (by omega)).mono ?_
              rintro e w3 ⟨r, rfl, hr, hB3⟩
              have hB4 := HB.out.trans (hB3.mono HB.out.size)
              go_wp2_with fail
              go_ret2
              exact ⟨r, by rw [he.out]; rfl, by rw [hx.out, Int.add_zero]; exact hr, hB4⟩
            | other _ e hk h2 =>
              subst e
              obtain ⟨y2, hy2⟩ : ∃ y, (S[m1]'hk).toNat = y := ⟨_, rfl⟩
              have hyi2 : (((S[m1]'hk).toNat : Nat) : Int) = (y2 : Int) := by rw [hy2]
              rw [hy2] at h2
              have hkl : (m1 : Int) < (S.size : Int) := by omega
              obtain ⟨o1, o2⟩ := h2
              have v1 : ((y2 : Int) == 43) = false := by rw [beq_eq_false_iff_ne]; omega
              have v2 : ((y2 : Int) == 45) = false := by rw [beq_eq_false_iff_ne]; omega
              clear o1 o2 hy2 hm1
              have CD2 := Lib.hid (fun W => isDigit_any S (m1) W (by omega) (by omega))
              rw [hd] at CD2
              go_wp2_with fail
              refine (CD2.out _).mono ?_
              rintro e w' ⟨rfl, rfl⟩
              go_wp2_with fail
              refine (CV.out (0) (by omega) (by omega)).mono ?_
              rintro e w3 ⟨r, rfl, hr, hB3⟩
              have hB4 := HB.out.trans (hB3.mono HB.out.size)
              go_wp2_with fail
              go_ret2
              exact ⟨r, by rw [he.out]; rfl, by rw [hx.out, Int.add_zero]; exact hr, hB4⟩
            | plus _ e hk h2 =>
              subst e
              obtain ⟨y2, hy2⟩ : ∃ y, (S[m1]'hk).toNat = y := ⟨_, rfl⟩
              have hyi2 : (((S[m1]'hk).toNat : Nat) : Int) = (y2 : Int) := by rw [hy2]
              rw [hy2] at h2
              have hkl : (m1 : Int) < (S.size : Int) := by omega
              have v1 : ((y2 : Int) == 43) = true := by rw [beq_iff_eq]; omega
              have v2 : ((y2 : Int) == 45) = false := by rw [beq_eq_false_iff_ne]; omega
              obtain ⟨m22, hm22⟩ : ∃ q, m1 + 1 = q := ⟨_, rfl⟩
              have hk1 : (m1 : Int) + 1 = (m22 : Int) := by omega
              rw [hm22] at hd
              have hm2b : m22 ≤ S.size + 2 := by omega
              clear h2 hy2 hm1 hm22
              have CD2 := Lib.hid (fun W => isDigit_any S (m22) W (by omega) (by omega))
              rw [hd] at CD2
              go_wp2_with fail
              refine (CD2.out _).mono ?_
              rintro e w' ⟨rfl, rfl⟩
              go_wp2_with fail
              refine (CV.out (0) (by omega) (by omega)).mono ?_
              rintro e w3 ⟨r, rfl, hr, hB3⟩
              have hB4 := HB.out.trans (hB3.mono HB.out.size)
              go_wp2_with fail
              go_ret2
              exact ⟨r, by rw [he.out]; rfl, by rw [hx.out, Int.add_zero]; exact hr, hB4⟩
            | minus _ e hk h2 =>
              subst e
              obtain ⟨y2, hy2⟩ : ∃ y, (S[m1]'hk).toNat = y := ⟨_, rfl⟩
              have hyi2 : (((S[m1]'hk).toNat : Nat) : Int) = (y2 : Int) := by rw [hy2]
              rw [hy2] at h2
              have hkl : (m1 : Int) < (S.size : Int) := by omega
              have v1 : ((y2 : Int) == 43) = false := by rw [beq_eq_false_iff_ne]; omega
              have v2 : ((y2 : Int) == 45) = true := by rw [beq_iff_eq]; omega
              obtain ⟨m22, hm22⟩ : ∃ q, m1 + 1 = q := ⟨_, rfl⟩
              have hk1 : (m1 : Int) + 1 = (m22 : Int) := by omega
              rw [hm22] at hd
              have hm2b : m22 ≤ S.size + 2 := by omega
              clear h2 hy2 hm1 hm22
              have CD2 := Lib.hid (fun W => isDigit_any S (m22) W (by omega) (by omega))
              rw [hd] at CD2
              go_wp2_with fail
              refine (CD2.out _).mono ?_
              rintro e w' ⟨rfl, rfl⟩
              go_wp2_with fail
              refine (CV.out (0) (by omega) (by omega)).mono ?_
              rintro e w3 ⟨r, rfl, hr, hB3⟩
              have hB4 := HB.out.trans (hB3.mono HB.out.size)
              go_wp2_with fail
              go_ret2
              exact ⟨r, by rw [he.out]; rfl, by rw [hx.out, Int.add_zero]; exact hr, hB4⟩
        | num hq h b0 k c hs hc hc0 hx he =>
          rw [hy0] at h
          have hE2 : ((y0 : Int) == 101) = true ∨ (((y0 : Int) == 101) = false ∧ ((y0 : Int) == 69) = true) := by
            rcases h with h | h
            · left; rw [beq_iff_eq]; omega
            · right; rw [beq_eq_false_iff_ne, beq_iff_eq]; omega
          clear h hy0
          have t1 : (m : Int) < (S.size : Int) := by omega
          obtain ⟨m1, hm1⟩ : ∃ m1, m + 1 = m1 := ⟨_, rfl⟩
          have hk0 : (m : Int) + 1 = (m1 : Int) := by omega
          rw [hm1] at hs
          rcases hE2 with u1 | ⟨u1, u2⟩
          all_goals
            cases hs with
            | far _ e h2 =>
              subst e
              have hkl : ¬ (m1 : Int) < (S.size : Int) := by omega
              clear hm1
              obtain ⟨D9, hD9⟩ : ∃ D9, (S.data.toList.drop (m1)).take c = D9 := ⟨_, rfl⟩
              have hrun := dig_run S.data.toList (m1)
              rw [hc] at hrun
              have hkb : m1 ≤ S.size + 2 := by omega
              have HRUN := Lib.hid hrun
              have HDIG := Lib.hid hD9
              have CD3 := Lib.hid (fun (i : Nat) (hi : i ≤ 4611686018427387904) W => isDigit_any S i W (by omega) hi)
              have hcs : c ≤ S.size := by rw [← hc]; have := nDig_le (S.data.toList.drop (m1)); rw [List.length_drop, ba_len] at this; omega
              clear hrun hc hD9
              go_wp2_with fail
              refine (CD3.out m1 (by omega) _).mono ?_
              rintro e w' ⟨rfl, rfl⟩
              rw [show digAt S.data.toList m1 = true by have := HRUN.out.1 0 hc0; rwa [Nat.add_zero] at this]
              go_wp2_with fail
              go_loop [10, 12] (fun kv nv => ∃ j a2 m2 : Nat, j ≤ c ∧ m2 = m1 + j ∧ kv = .int .i64 (m2 : Int) ∧ nv = .int .i64 (a2 : Int) ∧ a2 = min (pv ((S.data.toList.drop m1).take j)) 100000) (fun kv _ => m1 + c - (RowKit.intOf kv).toNat)
              case atStart => exact ⟨0, 0, m1, by omega, by omega, rfl, rfl, by rw [List.take_zero, pv_nil, Nat.zero_min]⟩
              case round =>
                obtain ⟨j, a2, m2, hj, hm2, rfl, rfl, ha2⟩ := hrel
                have ha2b : a2 ≤ 100000 := by omega
                by_cases hlt : j < c
                · have hdg : digAt S.data.toList m2 = true := by rw [hm2]; exact HRUN.out.1 j hlt
                  have hms : m2 < S.size := by have := digAt_lt hdg; rw [ba_len] at this; exact this
                  obtain ⟨z, hz⟩ : ∃ z, (S[m2]'hms).toNat = z := ⟨_, rfl⟩
                  have hzi : (((S[m2]'hms).toNat : Nat) : Int) = (z : Int) := by rw [hz]
                  have hl : m2 < S.data.toList.length := by rw [ba_len]; exact hms
                  have hb := ba_byte S rfl m2 hms
                  rw [List.getElem?_eq_getElem hl] at hb
                  have hbe := Option.some.inj hb
                  have hzD : 48 ≤ z ∧ z ≤ 57 := by
                    have h0 := hdg
                    rw [digAt_at hl, hbe] at h0
                    have := isD_iff.1 h0
                    rw [hz] at this
                    exact this
                  obtain ⟨zd1, zd2⟩ := hzD
                  obtain ⟨a3, ha3⟩ : ∃ a3 : Nat, min (10 * (a2 : Int) + ((z : Int) - 48)) 100000 = (a3 : Int) := ⟨(min (10 * (a2 : Int) + ((z : Int) - 48)) 100000).toNat, by omega⟩
                  have HA3 := Lib.hid (show a3 = min (pv ((S.data.toList.drop m1).take (j + 1))) 100000 by
                    have hl2 : m1 + j < S.data.toList.length := by rw [← hm2]; exact hl
                    have e : S.data.toList[m1 + j] = S[m2]'hms := by
                      have hb2 := hb
                      subst hm2
                      exact hbe
                    rw [run_snoc hl2, e, pv_snoc, hz, ← cnt_step (a := a2) (by omega) ha2]
                    omega)
                  have CD4 := Lib.hid (CD3.out m2 (by omega))
                  have HM2 := Lib.hid hm2
                  have HA2 := Lib.hid ha2
                  clear hz hl hb hbe ha2
                  rw [hdg] at CD4
                  clear hdg hm2
                  go_wp2_with fail
                  refine (CD4.out _).mono ?_
                  rintro e w' ⟨rfl, rfl⟩
                  go_wp2_with fail
                  go_round
                  case rel => exact ⟨j + 1, a3, m2 + 1, by omega, by rw [HM2.out]; omega, by go_num, rfl, HA3.out⟩
                  case measure => simp [RowKit.intOf]; have := HM2.out; omega
                · obtain rfl : c = j := by omega
                  have hdg : digAt S.data.toList m2 = false := by rw [hm2]; exact HRUN.out.2
                  have CD4 := Lib.hid (CD3.out m2 (by have := digAt_lt (l := S.data.toList) (i := m1) (by have := HRUN.out.1 0 hc0; rwa [Nat.add_zero] at this); rw [ba_len] at this; omega))
                  rw [hdg] at CD4
                  have HA2 := Lib.hid ha2
                  have HM2 := Lib.hid hm2
                  have HD9 := HDIG.out
                  clear ha2 hdg hm2 HD9
                  go_wp2_with fail
                  refine (CD4.out _).mono ?_
                  rintro e w' ⟨rfl, rfl⟩
                  go_wp2_with fail
                  refine (CV.out ((a2 : Int)) (by omega) (by omega)).mono ?_
                  rintro e w3 ⟨r, rfl, hr, hB3⟩
                  have hB4 := HB.out.trans (hB3.mono HB.out.size)
                  go_wp2_with fail
                  go_ret2
                  refine ⟨r, ?_, ?_, hB4⟩
                  · rw [he.out, ← HM2.out]
                    rfl
                  · have e := HA2.out
                    rw [hx.out, if_neg (by decide), ← e]
                    exact (by rw [Int.zero_add]; exact hr)
            | other _ e hk h2 =>
              subst e
              obtain ⟨y2, hy2⟩ : ∃ y, (S[m1]'hk).toNat = y := ⟨_, rfl⟩
              have hyi2 : (((S[m1]'hk).toNat : Nat) : Int) = (y2 : Int) := by rw [hy2]
              rw [hy2] at h2
              have hkl : (m1 : Int) < (S.size : Int) := by omega
              obtain ⟨o1, o2⟩ := h2
              have v1 : ((y2 : Int) == 43) = false := by rw [beq_eq_false_iff_ne]; omega
              have v2 : ((y2 : Int) == 45) = false := by rw [beq_eq_false_iff_ne]; omega
              clear o1 o2 hy2 hm1
              obtain ⟨D9, hD9⟩ : ∃ D9, (S.data.toList.drop (m1)).take c = D9 := ⟨_, rfl⟩
              have hrun := dig_run S.data.toList (m1)
              rw [hc] at hrun
              have hkb : m1 ≤ S.size + 2 := by omega
              have HRUN := Lib.hid hrun
              have HDIG := Lib.hid hD9
              have CD3 := Lib.hid (fun (i : Nat) (hi : i ≤ 4611686018427387904) W => isDigit_any S i W (by omega) hi)
              have hcs : c ≤ S.size := by rw [← hc]; have := nDig_le (S.data.toList.drop (m1)); rw [List.length_drop, ba_len] at this; omega
              clear hrun hc hD9
              go_wp2_with fail
              refine (CD3.out m1 (by omega) _).mono ?_
              rintro e w' ⟨rfl, rfl⟩
              rw [show digAt S.data.toList m1 = true by have := HRUN.out.1 0 hc0; rwa [Nat.add_zero] at this]
              go_wp2_with fail
              go_loop [10, 12] (fun kv nv => ∃ j a2 m2 : Nat, j ≤ c ∧ m2 = m1 + j ∧ kv = .int .i64 (m2 : Int) ∧ nv = .int .i64 (a2 : Int) ∧ a2 = min (pv ((S.data.toList.drop m1).take j)) 100000) (fun kv _ => m1 + c - (RowKit.intOf kv).toNat)
              case atStart => exact ⟨0, 0, m1, by omega, by omega, rfl, rfl, by rw [List.take_zero, pv_nil, Nat.zero_min]⟩
              case round =>
                obtain ⟨j, a2, m2, hj, hm2, rfl, rfl, ha2⟩ := hrel
                have ha2b : a2 ≤ 100000 := by omega
                by_cases hlt : j < c
                · have hdg : digAt S.data.toList m2 = true := by rw [hm2]; exact HRUN.out.1 j hlt
                  have hms : m2 < S.size := by have := digAt_lt hdg; rw [ba_len] at this; exact this
                  obtain ⟨z, hz⟩ : ∃ z, (S[m2]'hms).toNat = z := ⟨_, rfl⟩
                  have hzi : (((S[m2]'hms).toNat : Nat) : Int) = (z : Int) := by rw [hz]
                  have hl : m2 < S.data.toList.length := by rw [ba_len]; exact hms
                  have hb := ba_byte S rfl m2 hms
                  rw [List.getElem?_eq_getElem hl] at hb
                  have hbe := Option.some.inj hb
                  have hzD : 48 ≤ z ∧ z ≤ 57 := by
                    have h0 := hdg
                    rw [digAt_at hl, hbe] at h0
                    have := isD_iff.1 h0
                    rw [hz] at this
                    exact this
                  obtain ⟨zd1, zd2⟩ := hzD
                  obtain ⟨a3, ha3⟩ : ∃ a3 : Nat, min (10 * (a2 : Int) + ((z : Int) - 48)) 100000 = (a3 : Int) := ⟨(min (10 * (a2 : Int) + ((z : Int) - 48)) 100000).toNat, by omega⟩
                  have HA3 := Lib.hid (show a3 = min (pv ((S.data.toList.drop m1).take (j + 1))) 100000 by
                    have hl2 : m1 + j < S.data.toList.length := by rw [← hm2]; exact hl
                    have e : S.data.toList[m1 + j] = S[m2]'hms := by
                      have hb2 := hb
                      subst hm2
                      exact hbe
                    rw [run_snoc hl2, e, pv_snoc, hz, ← cnt_step (a := a2) (by omega) ha2]
                    omega)
                  have CD4 := Lib.hid (CD3.out m2 (by omega))
                  have HM2 := Lib.hid hm2
                  have HA2 := Lib.hid ha2
                  clear hz hl hb hbe ha2
                  rw [hdg] at CD4
                  clear hdg hm2
                  go_wp2_with fail
                  refine (CD4.out _).mono ?_
                  rintro e w' ⟨rfl, rfl⟩
                  go_wp2_with fail
                  go_round
                  case rel => exact ⟨j + 1, a3, m2 + 1, by omega, by rw [HM2.out]; omega, by go_num, rfl, HA3.out⟩
                  case measure => simp [RowKit.intOf]; have := HM2.out; omega
                · obtain rfl : c = j := by omega
                  have hdg : digAt S.data.toList m2 = false := by rw [hm2]; exact HRUN.out.2
                  have CD4 := Lib.hid (CD3.out m2 (by have := digAt_lt (l := S.data.toList) (i := m1) (by have := HRUN.out.1 0 hc0; rwa [Nat.add_zero] at this); rw [ba_len] at this; omega))
                  rw [hdg] at CD4
                  have HA2 := Lib.hid ha2
                  have HM2 := Lib.hid hm2
                  have HD9 := HDIG.out
                  clear ha2 hdg hm2 HD9
                  go_wp2_with fail
                  refine (CD4.out _).mono ?_
                  rintro e w' ⟨rfl, rfl⟩
                  go_wp2_with fail
                  refine (CV.out ((a2 : Int)) (by omega) (by omega)).mono ?_
                  rintro e w3 ⟨r, rfl, hr, hB3⟩
                  have hB4 := HB.out.trans (hB3.mono HB.out.size)
                  go_wp2_with fail
                  go_ret2
                  refine ⟨r, ?_, ?_, hB4⟩
                  · rw [he.out, ← HM2.out]
                    rfl
                  · have e := HA2.out
                    rw [hx.out, if_neg (by decide), ← e]
                    exact (by rw [Int.zero_add]; exact hr)
            | plus _ e hk h2 =>
              subst e
              obtain ⟨y2, hy2⟩ : ∃ y, (S[m1]'hk).toNat = y := ⟨_, rfl⟩
              have hyi2 : (((S[m1]'hk).toNat : Nat) : Int) = (y2 : Int) := by rw [hy2]
              rw [hy2] at h2
              have hkl : (m1 : Int) < (S.size : Int) := by omega
              have v1 : ((y2 : Int) == 43) = true := by rw [beq_iff_eq]; omega
              have v2 : ((y2 : Int) == 45) = false := by rw [beq_eq_false_iff_ne]; omega
              obtain ⟨m22, hm22⟩ : ∃ q, m1 + 1 = q := ⟨_, rfl⟩
              have hk1 : (m1 : Int) + 1 = (m22 : Int) := by omega
              rw [hm22] at hc hx he
              have hm2b : m22 ≤ S.size + 2 := by omega
              clear h2 hy2 hm1 hm22
              obtain ⟨D9, hD9⟩ : ∃ D9, (S.data.toList.drop (m22)).take c = D9 := ⟨_, rfl⟩
              have hrun := dig_run S.data.toList (m22)
              rw [hc] at hrun
              have hkb : m22 ≤ S.size + 2 := by omega
              have HRUN := Lib.hid hrun
              have HDIG := Lib.hid hD9
              have CD3 := Lib.hid (fun (i : Nat) (hi : i ≤ 4611686018427387904) W => isDigit_any S i W (by omega) hi)
              have hcs : c ≤ S.size := by rw [← hc]; have := nDig_le (S.data.toList.drop (m22)); rw [List.length_drop, ba_len] at this; omega
              clear hrun hc hD9
              go_wp2_with fail
              refine (CD3.out m22 (by omega) _).mono ?_
              rintro e w' ⟨rfl, rfl⟩
              rw [show digAt S.data.toList m22 = true by have := HRUN.out.1 0 hc0; rwa [Nat.add_zero] at this]
              go_wp2_with fail
              go_loop [10, 12] (fun kv nv => ∃ j a2 m2 : Nat, j ≤ c ∧ m2 = m22 + j ∧ kv = .int .i64 (m2 : Int) ∧ nv = .int .i64 (a2 : Int) ∧ a2 = min (pv ((S.data.toList.drop m22).take j)) 100000) (fun kv _ => m22 + c - (RowKit.intOf kv).toNat)
              case atStart => exact ⟨0, 0, m22, by omega, by omega, rfl, rfl, by rw [List.take_zero, pv_nil, Nat.zero_min]⟩
              case round =>
                obtain ⟨j, a2, m2, hj, hm2, rfl, rfl, ha2⟩ := hrel
                have ha2b : a2 ≤ 100000 := by omega
                by_cases hlt : j < c
                · have hdg : digAt S.data.toList m2 = true := by rw [hm2]; exact HRUN.out.1 j hlt
                  have hms : m2 < S.size := by have := digAt_lt hdg; rw [ba_len] at this; exact this
                  obtain ⟨z, hz⟩ : ∃ z, (S[m2]'hms).toNat = z := ⟨_, rfl⟩
                  have hzi : (((S[m2]'hms).toNat : Nat) : Int) = (z : Int) := by rw [hz]
                  have hl : m2 < S.data.toList.length := by rw [ba_len]; exact hms
                  have hb := ba_byte S rfl m2 hms
                  rw [List.getElem?_eq_getElem hl] at hb
                  have hbe := Option.some.inj hb
                  have hzD : 48 ≤ z ∧ z ≤ 57 := by
                    have h0 := hdg
                    rw [digAt_at hl, hbe] at h0
                    have := isD_iff.1 h0
                    rw [hz] at this
                    exact this
                  obtain ⟨zd1, zd2⟩ := hzD
                  obtain ⟨a3, ha3⟩ : ∃ a3 : Nat, min (10 * (a2 : Int) + ((z : Int) - 48)) 100000 = (a3 : Int) := ⟨(min (10 * (a2 : Int) + ((z : Int) - 48)) 100000).toNat, by omega⟩
                  have HA3 := Lib.hid (show a3 = min (pv ((S.data.toList.drop m22).take (j + 1))) 100000 by
                    have hl2 : m22 + j < S.data.toList.length := by rw [← hm2]; exact hl
                    have e : S.data.toList[m22 + j] = S[m2]'hms := by
                      have hb2 := hb
                      subst hm2
                      exact hbe
                    rw [run_snoc hl2, e, pv_snoc, hz, ← cnt_step (a := a2) (by omega) ha2]
                    omega)
                  have CD4 := Lib.hid (CD3.out m2 (by omega))
                  have HM2 := Lib.hid hm2
                  have HA2 := Lib.hid ha2
                  clear hz hl hb hbe ha2
                  rw [hdg] at CD4
                  clear hdg hm2
                  go_wp2_with fail
                  refine (CD4.out _).mono ?_
                  rintro e w' ⟨rfl, rfl⟩
                  go_wp2_with fail
                  go_round
                  case rel => exact ⟨j + 1, a3, m2 + 1, by omega, by rw [HM2.out]; omega, by go_num, rfl, HA3.out⟩
                  case measure => simp [RowKit.intOf]; have := HM2.out; omega
                · obtain rfl : c = j := by omega
                  have hdg : digAt S.data.toList m2 = false := by rw [hm2]; exact HRUN.out.2
                  have CD4 := Lib.hid (CD3.out m2 (by have := digAt_lt (l := S.data.toList) (i := m22) (by have := HRUN.out.1 0 hc0; rwa [Nat.add_zero] at this); rw [ba_len] at this; omega))
                  rw [hdg] at CD4
                  have HA2 := Lib.hid ha2
                  have HM2 := Lib.hid hm2
                  have HD9 := HDIG.out
                  clear ha2 hdg hm2 HD9
                  go_wp2_with fail
                  refine (CD4.out _).mono ?_
                  rintro e w' ⟨rfl, rfl⟩
                  go_wp2_with fail
                  refine (CV.out ((a2 : Int)) (by omega) (by omega)).mono ?_
                  rintro e w3 ⟨r, rfl, hr, hB3⟩
                  have hB4 := HB.out.trans (hB3.mono HB.out.size)
                  go_wp2_with fail
                  go_ret2
                  refine ⟨r, ?_, ?_, hB4⟩
                  · rw [he.out, ← HM2.out]
                    rfl
                  · have e := HA2.out
                    rw [hx.out, if_neg (by decide), ← e]
                    exact (by rw [Int.zero_add]; exact hr)
            | minus _ e hk h2 =>
              subst e
              obtain ⟨y2, hy2⟩ : ∃ y, (S[m1]'hk).toNat = y := ⟨_, rfl⟩
              have hyi2 : (((S[m1]'hk).toNat : Nat) : Int) = (y2 : Int) := by rw [hy2]
              rw [hy2] at h2
              have hkl : (m1 : Int) < (S.size : Int) := by omega
              have v1 : ((y2 : Int) == 43) = false := by rw [beq_eq_false_iff_ne]; omega
              have v2 : ((y2 : Int) == 45) = true := by rw [beq_iff_eq]; omega
              obtain ⟨m22, hm22⟩ : ∃ q, m1 + 1 = q := ⟨_, rfl⟩
              have hk1 : (m1 : Int) + 1 = (m22 : Int) := by omega
              rw [hm22] at hc hx he
              have hm2b : m22 ≤ S.size + 2 := by omega
              clear h2 hy2 hm1 hm22
              obtain ⟨D9, hD9⟩ : ∃ D9, (S.data.toList.drop (m22)).take c = D9 := ⟨_, rfl⟩
              have hrun := dig_run S.data.toList (m22)
              rw [hc] at hrun
              have hkb : m22 ≤ S.size + 2 := by omega
              have HRUN := Lib.hid hrun
              have HDIG := Lib.hid hD9
              have CD3 := Lib.hid (fun (i : Nat) (hi : i ≤ 4611686018427387904) W => isDigit_any S i W (by omega) hi)
              have hcs : c ≤ S.size := by rw [← hc]; have := nDig_le (S.data.toList.drop (m22)); rw [List.length_drop, ba_len] at this; omega
              clear hrun hc hD9
              go_wp2_with fail
              refine (CD3.out m22 (by omega) _).mono ?_
              rintro e w' ⟨rfl, rfl⟩
              rw [show digAt S.data.toList m22 = true by have := HRUN.out.1 0 hc0; rwa [Nat.add_zero] at this]
              go_wp2_with fail
              go_loop [10, 12] (fun kv nv => ∃ j a2 m2 : Nat, j ≤ c ∧ m2 = m22 + j ∧ kv = .int .i64 (m2 : Int) ∧ nv = .int .i64 (a2 : Int) ∧ a2 = min (pv ((S.data.toList.drop m22).take j)) 100000) (fun kv _ => m22 + c - (RowKit.intOf kv).toNat)
              case atStart => exact ⟨0, 0, m22, by omega, by omega, rfl, rfl, by rw [List.take_zero, pv_nil, Nat.zero_min]⟩
              case round =>
                obtain ⟨j, a2, m2, hj, hm2, rfl, rfl, ha2⟩ := hrel
                have ha2b : a2 ≤ 100000 := by omega
                by_cases hlt : j < c
                · have hdg : digAt S.data.toList m2 = true := by rw [hm2]; exact HRUN.out.1 j hlt
                  have hms : m2 < S.size := by have := digAt_lt hdg; rw [ba_len] at this; exact this
                  obtain ⟨z, hz⟩ : ∃ z, (S[m2]'hms).toNat = z := ⟨_, rfl⟩
                  have hzi : (((S[m2]'hms).toNat : Nat) : Int) = (z : Int) := by rw [hz]
                  have hl : m2 < S.data.toList.length := by rw [ba_len]; exact hms
                  have hb := ba_byte S rfl m2 hms
                  rw [List.getElem?_eq_getElem hl] at hb
                  have hbe := Option.some.inj hb
                  have hzD : 48 ≤ z ∧ z ≤ 57 := by
                    have h0 := hdg
                    rw [digAt_at hl, hbe] at h0
                    have := isD_iff.1 h0
                    rw [hz] at this
                    exact this
                  obtain ⟨zd1, zd2⟩ := hzD
                  obtain ⟨a3, ha3⟩ : ∃ a3 : Nat, min (10 * (a2 : Int) + ((z : Int) - 48)) 100000 = (a3 : Int) := ⟨(min (10 * (a2 : Int) + ((z : Int) - 48)) 100000).toNat, by omega⟩
                  have HA3 := Lib.hid (show a3 = min (pv ((S.data.toList.drop m22).take (j + 1))) 100000 by
                    have hl2 : m22 + j < S.data.toList.length := by rw [← hm2]; exact hl
                    have e : S.data.toList[m22 + j] = S[m2]'hms := by
                      have hb2 := hb
                      subst hm2
                      exact hbe
                    rw [run_snoc hl2, e, pv_snoc, hz, ← cnt_step (a := a2) (by omega) ha2]
                    omega)
                  have CD4 := Lib.hid (CD3.out m2 (by omega))
                  have HM2 := Lib.hid hm2
                  have HA2 := Lib.hid ha2
                  clear hz hl hb hbe ha2
                  rw [hdg] at CD4
                  clear hdg hm2
                  go_wp2_with fail
                  refine (CD4.out _).mono ?_
                  rintro e w' ⟨rfl, rfl⟩
                  go_wp2_with fail
                  go_round
                  case rel => exact ⟨j + 1, a3, m2 + 1, by omega, by rw [HM2.out]; omega, by go_num, rfl, HA3.out⟩
                  case measure => simp [RowKit.intOf]; have := HM2.out; omega
                · obtain rfl : c = j := by omega
                  have hdg : digAt S.data.toList m2 = false := by rw [hm2]; exact HRUN.out.2
                  have CD4 := Lib.hid (CD3.out m2 (by have := digAt_lt (l := S.data.toList) (i := m22) (by have := HRUN.out.1 0 hc0; rwa [Nat.add_zero] at this); rw [ba_len] at this; omega))
                  rw [hdg] at CD4
                  have HA2 := Lib.hid ha2
                  have HM2 := Lib.hid hm2
                  have HD9 := HDIG.out
                  clear ha2 hdg hm2 HD9
                  go_wp2_with fail
                  refine (CD4.out _).mono ?_
                  rintro e w' ⟨rfl, rfl⟩
                  go_wp2_with fail
                  refine (CV.out (-(a2 : Int)) (by omega) (by omega)).mono ?_
                  rintro e w3 ⟨r, rfl, hr, hB3⟩
                  have hB4 := HB.out.trans (hB3.mono HB.out.size)
                  go_wp2_with fail
                  go_ret2
                  refine ⟨r, ?_, ?_, hB4⟩
                  · rw [he.out, ← HM2.out]
                    rfl
                  · have e := HA2.out
                    rw [hx.out, if_pos trivial, ← e]
                    exact (by rw [Int.zero_add]; exact hr)
end Go.Proofs.YtmceakbjholjpaaGreatDoor
