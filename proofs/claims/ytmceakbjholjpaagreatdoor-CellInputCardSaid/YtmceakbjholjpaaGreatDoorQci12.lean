/- Several texts in one (The definition of layer 4: Numeral with a point, walked). -/
import Derived.Test.YtmceakbjholjpaaGreatDoorQci11
namespace Go.Proofs.YtmceakbjholjpaaGreatDoor
open Go.RowKit Go.Lib

set_option maxRecDepth 100000 in
set_option maxHeartbeats 8000000 in
theorem rnum_point_some (S : ByteArray) (f a : Nat) (w : World) (hs9 : S.size ≤ 4000) (_hfl : f ≤ S.size) (ha : nDig (S.data.toList.drop f) = a) (h0 : 0 < a) (hq0 : f + a < S.size) (hy0 : (S[f + a]'hq0).toNat = 46) (p b : Nat) (hp : f + a + 1 = p) (hb : nDig (S.data.toList.drop p) = b) (ex : Int) (en : Nat) (hE : EKind S (p + b) ex en) :
    Calls Tryz.prog 104 #[.string S, .int .i64 (f : Int)] w (RNum w ((S.data.toList.drop f).take a ++ (S.data.toList.drop p).take b) (-(b : Int) + ex) en) := by
  obtain ⟨i0, hi, hz0, hz1, hz2⟩ := info_parts info_u8
  have hf := dig_run S.data.toList f
  rw [ha] at hf
  have Hf1 := Lib.hid hf.1
  have Hf2 := Lib.hid hf.2
  have hfs : f ≤ 4611686018427387904 := by omega
  have hal : a ≤ S.size := by omega
  have hbl : b ≤ S.size := by rw [← hb]; have := nDig_le (S.data.toList.drop p); rw [List.length_drop, ba_len] at this; omega
  have hdp := dig_run S.data.toList p
  rw [hb] at hdp
  have Hp1 := Lib.hid hdp.1
  have Hp2 := Lib.hid hdp.2
  have hpl : p ≤ S.size := by omega
  have hsome : decide (0 < a) = true := decide_eq_true h0
  have hsome2 : decide (0 < a + b) = true := decide_eq_true (by omega)
  have HDd := Lib.hid (show Dec ((S.data.toList.drop f).take a ++ (S.data.toList.drop p).take b) by rw [← ha, ← hb, run_take, run_take]; exact dec_app (dec_takeWhile _) (dec_takeWhile _))
  obtain ⟨X1, hX1⟩ : ∃ X1, (S.data.toList.drop f).take a = X1 := ⟨_, rfl⟩
  have hX1l : X1.length ≤ 4000 := by rw [← hX1, List.length_take, List.length_drop, ba_len]; omega
  rw [hX1] at HDd ⊢
  obtain ⟨DS, hDS⟩ : ∃ DS, X1 ++ (S.data.toList.drop p).take b = DS := ⟨_, rfl⟩
  have hDSl : DS.length ≤ 8000 := by rw [← hDS, List.length_append, List.length_take, List.length_drop, ba_len]; omega
  rw [hDS] at HDd ⊢
  have HDS := Lib.hid hDS
  have HX1 := Lib.hid hX1
  obtain ⟨p0, hp0⟩ : ∃ p0, f + a = p0 := ⟨_, rfl⟩
  have hyi0 : (((S[f + a]'hq0).toNat : Nat) : Int) = 46 := by rw [hy0]; rfl
  have HP0 := Lib.hid hp0
  have hq1 : p0 < S.size := by omega
  have hyi1 : (((S[p0]'hq1).toNat : Nat) : Int) = 46 := by subst hp0; exact hyi0
  have hpp : (p0 : Int) + 1 = (p : Int) := by omega
  have t0 : (p0 : Int) < (S.size : Int) := by omega
  clear hf ha hb hDS hX1 hdp hy0 hyi0 hp hp0
  go_enter Tryz.func104, Tryz.ntmps104
  go_wp2_with fail
  go_loopw [6, 8, 9] (fun iv sv av wr => ∃ (j m n9 : Nat) (v : Value), j ≤ a ∧ m = f + j ∧ iv = .int .i64 (m : Int) ∧ sv = .bool (decide (0 < j)) ∧ av = v ∧ n9 = ((S.data.toList.drop f).take j).length ∧ Own .u8 wr w.heap.size 5 v (cod ((S.data.toList.drop f).take j)) ∧ Below w.heap.size w wr) (fun iv _ _ _ => f + a - (RowKit.intOf iv).toNat)
  case atStart => exact ⟨0, f, 0, _, by omega, by omega, rfl, rfl, rfl, by rw [List.take_zero]; rfl, by rw [List.take_zero]; exact Own.nil _ _ _, Below.refl _ _⟩
  case round =>
    try clear hB
    obtain ⟨j, m, n9, av, hj, hm, rfl, rfl, rfl, hn9, hO, hB⟩ := hrel
    by_cases hlt : j < a
    · have hdg : digAt S.data.toList m = true := by rw [hm]; exact Hf1.out j hlt
      have hms : m < S.size := by have := digAt_lt hdg; rw [ba_len] at this; exact this
      have CD := Lib.hid (fun W => isDigit_any S m W (by omega) (by omega))
      rw [hdg] at CD
      obtain ⟨z, hz⟩ : ∃ z, (S[m]'hms).toNat = z := ⟨_, rfl⟩
      have hzi : (((S[m]'hms).toNat : Nat) : Int) = (z : Int) := by rw [hz]
      have hzD : 48 ≤ z ∧ z ≤ 57 := by
        have hl : m < S.data.toList.length := by rw [ba_len]; exact hms
        rw [digAt_at hl] at hdg
        have hb := ba_byte S rfl m hms
        rw [List.getElem?_eq_getElem hl] at hb
        rw [Option.some.inj hb] at hdg
        have := isD_iff.1 hdg
        rw [hz] at this
        exact this
      obtain ⟨L, hL⟩ : ∃ L, (S.data.toList.drop f).take j = L := ⟨_, rfl⟩
      rw [hL] at hO hn9
      have hcz : cod L ++ [z] = cod ((S.data.toList.drop f).take (j + 1)) := by
        have hl : f + j < S.data.toList.length := by rw [ba_len, ← hm]; exact hms
        have hb := ba_byte S rfl m hms
        rw [run_snoc hl, hL]
        have e : S.data.toList[f + j] = S[m]'hms := by
          subst hm
          rw [List.getElem?_eq_getElem hl] at hb
          exact Option.some.inj hb
        rw [e]
        unfold cod
        rw [List.map_append]
        show _ = _ ++ [(S[m]'hms).toNat]
        rw [hz]
      have hLl : L.length ≤ 100000 := by
        rw [← hL]
        simp only [List.length_take, List.length_drop, ba_len]
        omega
      have hlen1 : n9 + 1 = ((S.data.toList.drop f).take (j + 1)).length := by
        have h := congrArg List.length hcz
        rw [List.length_append, cod_len, cod_len] at h
        rw [← h, hn9]
        rfl
      have HLN := Lib.hid hlen1
      clear hlen1
      obtain ⟨A9, c9, rfl, hc91, hc92⟩ := hO.slice
      have hown := hO.row (n := n9) (by rw [cod_len]; exact hn9.symm)
      rw [cod_len, ← hn9] at hown ⊢
      have hn99 : n9 ≤ 100000 := by omega
      have HM := Lib.hid hm
      have HN9 := Lib.hid hn9
      clear hO hL hz hdg hm hc91 hc92 hn9
      go_wp2_with fail
      refine (CD.out _).mono ?_
      rintro e w' ⟨rfl, rfl⟩
      have hsz9 := hB.size
      go_wp2_with (at_builtin; refine wpList_append_own _ rfl _ _ 138 rfl w.heap.size 5 i0 (.int .u8 0) 1 1 Tryz.underlying138 hi hz0 hz1 hz2 rfl (by decide) _ _ _ rfl (hown.alloc _) ⟨wr.heap.size, 0, none⟩ 1 1 [.int .u8 (z : Int)] rfl rfl (cell_one_new _ _ _) ?Pf2 ?Pf3 ?Pf4 ?Pf5 ?_)
      case Pf2 => simp [Value.oneCell']
      case Pf3 => unfold maxLen; omega
      case Pf4 => omega
      case Pf5 => first | omega | (simp; omega)
      intro v1 w1 hown1 hgrow1 _
      have hO1 : Own .u8 w1 w.heap.size 5 v1 (cod L ++ [z]) := Own.snoc hown1 (by rw [cod_len]; exact HN9.out)
      have hB1 := (hB.alloc hB.size _).grown hgrow1 (by simp; have := hB.size; omega) (fun z e => (World.ownsRow.lt hown z e).1)
      rw [hcz] at hO1
      have HO1 := Lib.hid hO1
      have HB1 := Lib.hid hB1
      clear hown hown1 hgrow1 hO1 hB1 hcz
      go_wp2_with fail
      go_roundw
      case rel => exact ⟨j + 1, m + 1, n9 + 1, v1, by omega, by rw [HM.out]; omega, by go_num, congrArg Value.bool (decide_eq_true (by omega)).symm, rfl, HLN.out, HO1.out, HB1.out⟩
      case measure =>
        have := HM.out
        simp [RowKit.intOf]
        omega
    · obtain rfl : a = j := by omega
      have hdg : digAt S.data.toList m = false := by rw [hm]; exact Hf2.out
      have CD := Lib.hid (fun W => isDigit_any S m W (by omega) (by omega))
      rw [hdg] at CD
      obtain ⟨A9, c9, rfl, hc91, hc92⟩ := hO.slice
      rw [cod_len, ← hn9] at hc91 ⊢
      rw [HX1.out] at hO hn9
      rw [cod_len, ← hn9] at hO
      have HO9 := Lib.hid hO
      have HB9 := Lib.hid hB
      have HN1 := Lib.hid hn9
      rw [hsome]
      have hmp : m = p0 := by rw [hm, HP0.out]
      rw [hmp] at CD ⊢
      have HS3 := Lib.hid (show true = decide (0 < a + 0) by rw [Nat.add_zero, hsome])
      clear hO hB hn9 hc91 hc92 hdg hm hmp
      go_wp2_with fail
      refine (CD.out _).mono ?_
      rintro e w' ⟨rfl, rfl⟩
      go_wp2_with fail
      go_loopw [6, 7, 8, 9] (fun iv ev sv av wr => ∃ (j m n9 : Nat) (v : Value), j ≤ b ∧ m = p + j ∧ iv = .int .i64 (m : Int) ∧ ev = .int .i64 (-(j : Int)) ∧ sv = .bool (decide (0 < a + j)) ∧ av = v ∧ n9 = (X1 ++ (S.data.toList.drop p).take j).length ∧ Own .u8 wr w.heap.size 5 v (cod (X1 ++ (S.data.toList.drop p).take j)) ∧ Below w.heap.size w wr) (fun iv _ _ _ _ => p + b - (RowKit.intOf iv).toNat)
      case atStart => exact ⟨0, p, n9, _, by omega, by omega, rfl, rfl, congrArg Value.bool HS3.out, rfl, by rw [List.take_zero, List.append_nil]; exact HN1.out, by rw [List.take_zero, List.append_nil]; exact HO9.out, HB9.out⟩
      case round =>
        try clear hB
        obtain ⟨j, m, n9, av, hj, hm, rfl, rfl, rfl, rfl, hn9, hO, hB⟩ := hrel
        by_cases hlt : j < b
        · have hdg : digAt S.data.toList m = true := by rw [hm]; exact Hp1.out j hlt
          have hms : m < S.size := by have := digAt_lt hdg; rw [ba_len] at this; exact this
          have CD := Lib.hid (fun W => isDigit_any S m W (by omega) (by omega))
          rw [hdg] at CD
          obtain ⟨z, hz⟩ : ∃ z, (S[m]'hms).toNat = z := ⟨_, rfl⟩
          have hzi : (((S[m]'hms).toNat : Nat) : Int) = (z : Int) := by rw [hz]
          have hzD : 48 ≤ z ∧ z ≤ 57 := by
            have hl : m < S.data.toList.length := by rw [ba_len]; exact hms
            rw [digAt_at hl] at hdg
            have hb := ba_byte S rfl m hms
            rw [List.getElem?_eq_getElem hl] at hb
            rw [Option.some.inj hb] at hdg
            have := isD_iff.1 hdg
            rw [hz] at this
            exact this
          obtain ⟨L, hL⟩ : ∃ L, X1 ++ (S.data.toList.drop p).take j = L := ⟨_, rfl⟩
          rw [hL] at hO hn9
          have hcz : cod L ++ [z] = cod (X1 ++ (S.data.toList.drop p).take (j + 1)) := by
            have hl : p + j < S.data.toList.length := by rw [ba_len, ← hm]; exact hms
            have hb := ba_byte S rfl m hms
            rw [run_snoc hl, ← List.append_assoc, hL]
            have e : S.data.toList[p + j] = S[m]'hms := by
              subst hm
              rw [List.getElem?_eq_getElem hl] at hb
              exact Option.some.inj hb
            rw [e]
            unfold cod
            rw [List.map_append]
            show _ = _ ++ [(S[m]'hms).toNat]
            rw [hz]
          have hLl : L.length ≤ 100000 := by
            rw [← hL]
            simp only [List.length_append, List.length_take, List.length_drop, ba_len]
            omega
          have hlen1 : n9 + 1 = (X1 ++ (S.data.toList.drop p).take (j + 1)).length := by
            have h := congrArg List.length hcz
            rw [List.length_append, cod_len, cod_len] at h
            rw [← h, hn9]
            rfl
          have HLN := Lib.hid hlen1
          clear hlen1
          obtain ⟨A9, c9, rfl, hc91, hc92⟩ := hO.slice
          have hown := hO.row (n := n9) (by rw [cod_len]; exact hn9.symm)
          rw [cod_len, ← hn9] at hown ⊢
          have hn99 : n9 ≤ 100000 := by omega
          have HM := Lib.hid hm
          have HN9 := Lib.hid hn9
          clear hO hL hz hdg hm hc91 hc92 hn9
          go_wp2_with fail
          refine (CD.out _).mono ?_
          rintro e w' ⟨rfl, rfl⟩
          have hsz9 := hB.size
          go_wp2_with (at_builtin; refine wpList_append_own _ rfl _ _ 138 rfl w.heap.size 5 i0 (.int .u8 0) 1 1 Tryz.underlying138 hi hz0 hz1 hz2 rfl (by decide) _ _ _ rfl (hown.alloc _) ⟨wr.heap.size, 0, none⟩ 1 1 [.int .u8 (z : Int)] rfl rfl (cell_one_new _ _ _) ?Pp2 ?Pp3 ?Pp4 ?Pp5 ?_)
          case Pp2 => simp [Value.oneCell']
          case Pp3 => unfold maxLen; omega
          case Pp4 => omega
          case Pp5 => first | omega | (simp; omega)
          intro v1 w1 hown1 hgrow1 _
          have hO1 : Own .u8 w1 w.heap.size 5 v1 (cod L ++ [z]) := Own.snoc hown1 (by rw [cod_len]; exact HN9.out)
          have hB1 := (hB.alloc hB.size _).grown hgrow1 (by simp; have := hB.size; omega) (fun z e => (World.ownsRow.lt hown z e).1)
          rw [hcz] at hO1
          have HO1 := Lib.hid hO1
          have HB1 := Lib.hid hB1
          clear hown hown1 hgrow1 hO1 hB1 hcz
          go_wp2_with fail
          go_roundw
          case rel => exact ⟨j + 1, m + 1, n9 + 1, v1, by omega, by rw [HM.out]; omega, by go_num, congrArg (Value.int .i64) (by omega), congrArg Value.bool (decide_eq_true (by omega)).symm, rfl, HLN.out, HO1.out, HB1.out⟩
          case measure =>
            have := HM.out
            simp [RowKit.intOf]
            omega
        · obtain rfl : b = j := by omega
          have hdg : digAt S.data.toList m = false := by rw [hm]; exact Hp2.out
          have CD := Lib.hid (fun W => isDigit_any S m W (by omega) (by omega))
          rw [hdg] at CD
          obtain ⟨A9, c9, rfl, hc91, hc92⟩ := hO.slice
          rw [cod_len, ← hn9] at hc91 ⊢
          rw [HDS.out] at hO hn9
          have HOR := Lib.hid hO.rd
          have HB := Lib.hid hB
          have hn94 : n9 ≤ 100000 := by rw [hn9, show DS.length = DS.length from rfl]; omega
          have CV := Lib.hid (fun (x : Int) (h0 : -1000000 ≤ x) (h9 : x ≤ 1000000) => rvalue_any A9 n9 c9 (DS) x wr hn9.symm hn94 hc91 (by unfold maxLen at hc92; omega) h0 h9 (HDd.out) HOR.out)
          rw [hsome2]
          subst hm
          obtain ⟨m, hm⟩ : ∃ m, p + b = m := ⟨_, rfl⟩
          rw [hm] at hE CD ⊢
          clear hO hB hn9 hDSl hc91 hc92 hdg hm
          go_wp2_with fail
          refine (CD.out _).mono ?_
          rintro e w' ⟨rfl, rfl⟩
          cases hE with
          | far hx he h =>
            have t1 : ¬ (m : Int) < (S.size : Int) := by omega
            go_wp2_with fail
            refine (CV.out (-(b : Int)) (by omega) (by omega)).mono ?_
            rintro e w3 ⟨r, rfl, hr, hB3⟩
            have hB4 := HB.out.trans (hB3.mono HB.out.size)
            go_wp2_with fail
            go_ret2
            exact ⟨r, by rw [he.out]; rfl, by rw [hx.out, Int.add_zero]; exact hr, hB4⟩
          | other hx he hq h =>
            obtain ⟨y, hy⟩ : ∃ y, (S[m]'hq).toNat = y := ⟨_, rfl⟩
            have hyi : (((S[m]'hq).toNat : Nat) : Int) = (y : Int) := by rw [hy]
            rw [hy] at h
            obtain ⟨o1, o2⟩ := h
            have t1 : (m : Int) < (S.size : Int) := by omega
            have u1 : ((y : Int) == 101) = false := by rw [beq_eq_false_iff_ne]; omega
            have u2 : ((y : Int) == 69) = false := by rw [beq_eq_false_iff_ne]; omega
            clear o1 o2 hy
            go_wp2_with fail
            refine (CV.out (-(b : Int)) (by omega) (by omega)).mono ?_
            rintro e w3 ⟨r, rfl, hr, hB3⟩
            have hB4 := HB.out.trans (hB3.mono HB.out.size)
            go_wp2_with fail
            go_ret2
            exact ⟨r, by rw [he.out]; rfl, by rw [hx.out, Int.add_zero]; exact hr, hB4⟩
          | bare hx he hq h b0 k hs hd =>
            obtain ⟨y, hy⟩ : ∃ y, (S[m]'hq).toNat = y := ⟨_, rfl⟩
            have hyi : (((S[m]'hq).toNat : Nat) : Int) = (y : Int) := by rw [hy]
            rw [hy] at h
            have hE2 : ((y : Int) == 101) = true ∨ (((y : Int) == 101) = false ∧ ((y : Int) == 69) = true) := by
              rcases h with h | h
              · left; rw [beq_iff_eq]; omega
              · right; rw [beq_eq_false_iff_ne, beq_iff_eq]; omega
            clear h hy
            have t1 : (m : Int) < (S.size : Int) := by omega
            obtain ⟨m1, hm1⟩ : ∃ m1, m + 1 = m1 := ⟨_, rfl⟩
            have hk0 : (m : Int) + 1 = (m1 : Int) := by omega
            rw [hm1] at hs
            rcases hE2 with u1 | ⟨u1, u2⟩
            all_goals
              cases hs with
              | far _ e h2 =>
                subst e
                have hkl : ¬ (m1 : Int) < (S.size : Int) := by omega
                clear hm1
                have CD2 := Lib.hid (fun W => isDigit_any S (m1) W (by omega) (by omega))
                rw [hd] at CD2
                go_wp2_with fail
                refine (CD2.out _).mono ?_
                rintro e w' ⟨rfl, rfl⟩
                go_wp2_with fail
                refine (CV.out (-(b : Int)) (by omega) (by omega)).mono ?_
                rintro e w3 ⟨r, rfl, hr, hB3⟩
                have hB4 := HB.out.trans (hB3.mono HB.out.size)
                go_wp2_with fail
                go_ret2
                exact ⟨r, by rw [he.out]; rfl, by rw [hx.out, Int.add_zero]; exact hr, hB4⟩
              | other _ e hk h2 =>
                subst e
                obtain ⟨y2, hy2⟩ : ∃ y, (S[m1]'hk).toNat = y := ⟨_, rfl⟩
                have hyi2 : (((S[m1]'hk).toNat : Nat) : Int) = (y2 : Int) := by rw [hy2]
                rw [hy2] at h2
                have hkl : (m1 : Int) < (S.size : Int) := by omega
                obtain ⟨o1, o2⟩ := h2
                have v1 : ((y2 : Int) == 43) = false := by rw [beq_eq_false_iff_ne]; omega
                have v2 : ((y2 : Int) == 45) = false := by rw [beq_eq_false_iff_ne]; omega
                clear o1 o2 hy2 hm1
                have CD2 := Lib.hid (fun W => isDigit_any S (m1) W (by omega) (by omega))
                rw [hd] at CD2
                go_wp2_with fail
                refine (CD2.out _).mono ?_
                rintro e w' ⟨rfl, rfl⟩
                go_wp2_with fail
                refine (CV.out (-(b : Int)) (by omega) (by omega)).mono ?_
                rintro e w3 ⟨r, rfl, hr, hB3⟩
                have hB4 := HB.out.trans (hB3.mono HB.out.size)
                go_wp2_with fail
                go_ret2
                exact ⟨r, by rw [he.out]; rfl, by rw [hx.out, Int.add_zero]; exact hr, hB4⟩
              | plus _ e hk h2 =>
                subst e
                obtain ⟨y2, hy2⟩ : ∃ y, (S[m1]'hk).toNat = y := ⟨_, rfl⟩
                have hyi2 : (((S[m1]'hk).toNat : Nat) : Int) = (y2 : Int) := by rw [hy2]
                rw [hy2] at h2
                have hkl : (m1 : Int) < (S.size : Int) := by omega
                have v1 : ((y2 : Int) == 43) = true := by rw [beq_iff_eq]; omega
                have v2 : ((y2 : Int) == 45) = false := by rw [beq_eq_false_iff_ne]; omega
                obtain ⟨m22, hm22⟩ : ∃ q, m1 + 1 = q := ⟨_, rfl⟩
                have hk1 : (m1 : Int) + 1 = (m22 : Int) := by omega
                rw [hm22] at hd
                have hm2b : m22 ≤ S.size + 2 := by omega
                clear h2 hy2 hm1 hm22
                have CD2 := Lib.hid (fun W => isDigit_any S (m22) W (by omega) (by omega))
                rw [hd] at CD2
                go_wp2_with fail
                refine (CD2.out _).mono ?_
                rintro e w' ⟨rfl, rfl⟩
                go_wp2_with fail
                refine (CV.out (-(b : Int)) (by omega) (by omega)).mono ?_
                rintro e w3 ⟨r, rfl, hr, hB3⟩
                have hB4 := HB.out.trans (hB3.mono HB.out.size)
                go_wp2_with fail
                go_ret2
                exact ⟨r, by rw [he.out]; rfl, by rw [hx.out, Int.add_zero]; exact hr, hB4⟩
              | minus _ e hk h2 =>
                subst e
                obtain ⟨y2, hy2⟩ : ∃ y, (S[m1]'hk).toNat = y := ⟨_, rfl⟩
                have hyi2 : (((S[m1]'hk).toNat : Nat) : Int) = (y2 : Int) := by rw [hy2]
                rw [hy2] at h2
                have hkl : (m1 : Int) < (S.size : Int) := by omega
                have v1 : ((y2 : Int) == 43) = false := by rw [beq_eq_false_iff_ne]; omega
                have v2 : ((y2 : Int) == 45) = true := by rw [beq_iff_eq]; omega
                obtain ⟨m22, hm22⟩ : ∃ q, m1 + 1 = q := ⟨_, rfl⟩
                have hk1 : (m1 : Int) + 1 = (m22 : Int) := by omega
                rw [hm22] at hd
                have hm2b : m22 ≤ S.size + 2 := by omega
                clear h2 hy2 hm1 hm22
                have CD2 := Lib.hid (fun W => isDigit_any S (m22) W (by omega) (by omega))
                rw [hd] at CD2
                go_wp2_with fail
                refine (CD2.out _).mono ?_
                rintro e w' ⟨rfl, rfl⟩
                go_wp2_with fail
                refine (CV.out (-(b : Int)) (by omega) (by omega)).mono ?_
                rintro e w3 ⟨r, rfl, hr, hB3⟩
                have hB4 := HB.out.trans (hB3.mono HB.out.size)
                go_wp2_with fail
                go_ret2
                exact ⟨r, by rw [he.out]; rfl, by rw [hx.out, Int.add_zero]; exact hr, hB4⟩
          | num hq h b0 k c hs hc hc0 hx he =>
            obtain ⟨y, hy⟩ : ∃ y, (S[m]'hq).toNat = y := ⟨_, rfl⟩
            have hyi : (((S[m]'hq).toNat : Nat) : Int) = (y : Int) := by rw [hy]
            rw [hy] at h
            have hE2 : ((y : Int) == 101) = true ∨ (((y : Int) == 101) = false ∧ ((y : Int) == 69) = true) := by
              rcases h with h | h
              · left; rw [beq_iff_eq]; omega
              · right; rw [beq_eq_false_iff_ne, beq_iff_eq]; omega
            clear h hy
            have t1 : (m : Int) < (S.size : Int) := by omega
            obtain ⟨m1, hm1⟩ : ∃ m1, m + 1 = m1 := ⟨_, rfl⟩
            have hk0 : (m : Int) + 1 = (m1 : Int) := by omega
            rw [hm1] at hs
            rcases hE2 with u1 | ⟨u1, u2⟩
            all_goals
              cases hs with
              | far _ e h2 =>
                subst e
                have hkl : ¬ (m1 : Int) < (S.size : Int) := by omega
                clear hm1
                obtain ⟨D9, hD9⟩ : ∃ D9, (S.data.toList.drop (m1)).take c = D9 := ⟨_, rfl⟩
                have hrun := dig_run S.data.toList (m1)
                rw [hc] at hrun
                have hkb : m1 ≤ S.size + 2 := by omega
                have HRUN := Lib.hid hrun
                have HDIG := Lib.hid hD9
                have CD3 := Lib.hid (fun (i : Nat) (hi : i ≤ 4611686018427387904) W => isDigit_any S i W (by omega) hi)
                have hcs : c ≤ S.size := by rw [← hc]; have := nDig_le (S.data.toList.drop (m1)); rw [List.length_drop, ba_len] at this; omega
                clear hrun hc hD9
                go_wp2_with fail
                refine (CD3.out m1 (by omega) _).mono ?_
                rintro e w' ⟨rfl, rfl⟩
                rw [show digAt S.data.toList m1 = true by have := HRUN.out.1 0 hc0; rwa [Nat.add_zero] at this]
                go_wp2_with fail
                go_loop [10, 12] (fun kv nv => ∃ j a2 m2 : Nat, j ≤ c ∧ m2 = m1 + j ∧ kv = .int .i64 (m2 : Int) ∧ nv = .int .i64 (a2 : Int) ∧ a2 = min (pv ((S.data.toList.drop m1).take j)) 100000) (fun kv _ => m1 + c - (RowKit.intOf kv).toNat)
                case atStart => exact ⟨0, 0, m1, by omega, by omega, rfl, rfl, by rw [List.take_zero, pv_nil, Nat.zero_min]⟩
                case round =>
                  obtain ⟨j, a2, m2, hj, hm2, rfl, rfl, ha2⟩ := hrel
                  have ha2b : a2 ≤ 100000 := by omega
                  by_cases hlt : j < c
                  · have hdg : digAt S.data.toList m2 = true := by rw [hm2]; exact HRUN.out.1 j hlt
                    have hms : m2 < S.size := by have := digAt_lt hdg; rw [ba_len] at this; exact this
                    obtain ⟨z, hz⟩ : ∃ z, (S[m2]'hms).toNat = z := ⟨_, rfl⟩
                    have hzi : (((S[m2]'hms).toNat : Nat) : Int) = (z : Int) := by rw [hz]
                    have hl : m2 < S.data.toList.length := by rw [ba_len]; exact hms
                    have hb := ba_byte S rfl m2 hms
                    rw [List.getElem?_eq_getElem hl] at hb
                    have hbe := Option.some.inj hb
                    have hzD : 48 ≤ z ∧ z ≤ 57 := by
                      have h0 := hdg
                      rw [digAt_at hl, hbe] at h0
                      have := isD_iff.1 h0
                      rw [hz] at this
                      exact this
                    obtain ⟨zd1, zd2⟩ := hzD
                    obtain ⟨a3, ha3⟩ : ∃ a3 : Nat, min (10 * (a2 : Int) + ((z : Int) - 48)) 100000 = (a3 : Int) := ⟨(min (10 * (a2 : Int) + ((z : Int) - 48)) 100000).toNat, by omega⟩
                    have HA3 := Lib.hid (show a3 = min (pv ((S.data.toList.drop m1).take (j + 1))) 100000 by
                      have hl2 : m1 + j < S.data.toList.length := by rw [← hm2]; exact hl
                      have e : S.data.toList[m1 + j] = S[m2]'hms := by
                        have hb2 := hb
                        subst hm2
                        exact hbe
                      rw [run_snoc hl2, e, pv_snoc, hz, ← cnt_step (a := a2) (by omega) ha2]
                      omega)
                    have CD4 := Lib.hid (CD3.out m2 (by omega))
                    have HM2 := Lib.hid hm2
                    have HA2 := Lib.hid ha2
                    clear hz hl hb hbe ha2
                    rw [hdg] at CD4
                    clear hdg hm2
                    go_wp2_with fail
                    refine (CD4.out _).mono ?_
                    rintro e w' ⟨rfl, rfl⟩
                    go_wp2_with fail
                    go_round
                    case rel => exact ⟨j + 1, a3, m2 + 1, by omega, by rw [HM2.out]; omega, by go_num, rfl, HA3.out⟩
                    case measure => simp [RowKit.intOf]; have := HM2.out; omega
                  · obtain rfl : c = j := by omega
                    have hdg : digAt S.data.toList m2 = false := by rw [hm2]; exact HRUN.out.2
                    have CD4 := Lib.hid (CD3.out m2 (by have := digAt_lt (l := S.data.toList) (i := m1) (by have := HRUN.out.1 0 hc0; rwa [Nat.add_zero] at this); rw [ba_len] at this; omega))
                    rw [hdg] at CD4
                    have HA2 := Lib.hid ha2
                    have HM2 := Lib.hid hm2
                    have HD9 := HDIG.out
                    clear ha2 hdg hm2 HD9
                    go_wp2_with fail
                    refine (CD4.out _).mono ?_
                    rintro e w' ⟨rfl, rfl⟩
                    go_wp2_with fail
                    refine (CV.out (-(b : Int) + (a2 : Int)) (by omega) (by omega)).mono ?_
                    rintro e w3 ⟨r, rfl, hr, hB3⟩
                    have hB4 := HB.out.trans (hB3.mono HB.out.size)
                    go_wp2_with fail
                    go_ret2
                    refine ⟨r, ?_, ?_, hB4⟩
                    · rw [he.out, ← HM2.out]
                      rfl
                    · have e := HA2.out
                      rw [hx.out, if_neg (by decide), ← e]
                      exact hr
              | other _ e hk h2 =>
                subst e
                obtain ⟨y2, hy2⟩ : ∃ y, (S[m1]'hk).toNat = y := ⟨_, rfl⟩
                have hyi2 : (((S[m1]'hk).toNat : Nat) : Int) = (y2 : Int) := by rw [hy2]
                rw [hy2] at h2
                have hkl : (m1 : Int) < (S.size : Int) := by omega
                obtain ⟨o1, o2⟩ := h2
                have v1 : ((y2 : Int) == 43) = false := by rw [beq_eq_false_iff_ne]; omega
                have v2 : ((y2 : Int) == 45) = false := by rw [beq_eq_false_iff_ne]; omega
                clear o1 o2 hy2 hm1
                obtain ⟨D9, hD9⟩ : ∃ D9, (S.data.toList.drop (m1)).take c = D9 := ⟨_, rfl⟩
                have hrun := dig_run S.data.toList (m1)
                rw [hc] at hrun
                have hkb : m1 ≤ S.size + 2 := by omega
                have HRUN := Lib.hid hrun
                have HDIG := Lib.hid hD9
                have CD3 := Lib.hid (fun (i : Nat) (hi : i ≤ 4611686018427387904) W => isDigit_any S i W (by omega) hi)
                have hcs : c ≤ S.size := by rw [← hc]; have := nDig_le (S.data.toList.drop (m1)); rw [List.length_drop, ba_len] at this; omega
                clear hrun hc hD9
                go_wp2_with fail
                refine (CD3.out m1 (by omega) _).mono ?_
                rintro e w' ⟨rfl, rfl⟩
                rw [show digAt S.data.toList m1 = true by have := HRUN.out.1 0 hc0; rwa [Nat.add_zero] at this]
                go_wp2_with fail
                go_loop [10, 12] (fun kv nv => ∃ j a2 m2 : Nat, j ≤ c ∧ m2 = m1 + j ∧ kv = .int .i64 (m2 : Int) ∧ nv = .int .i64 (a2 : Int) ∧ a2 = min (pv ((S.data.toList.drop m1).take j)) 100000) (fun kv _ => m1 + c - (RowKit.intOf kv).toNat)
                case atStart => exact ⟨0, 0, m1, by omega, by omega, rfl, rfl, by rw [List.take_zero, pv_nil, Nat.zero_min]⟩
                case round =>
                  obtain ⟨j, a2, m2, hj, hm2, rfl, rfl, ha2⟩ := hrel
                  have ha2b : a2 ≤ 100000 := by omega
                  by_cases hlt : j < c
                  · have hdg : digAt S.data.toList m2 = true := by rw [hm2]; exact HRUN.out.1 j hlt
                    have hms : m2 < S.size := by have := digAt_lt hdg; rw [ba_len] at this; exact this
                    obtain ⟨z, hz⟩ : ∃ z, (S[m2]'hms).toNat = z := ⟨_, rfl⟩
                    have hzi : (((S[m2]'hms).toNat : Nat) : Int) = (z : Int) := by rw [hz]
                    have hl : m2 < S.data.toList.length := by rw [ba_len]; exact hms
                    have hb := ba_byte S rfl m2 hms
                    rw [List.getElem?_eq_getElem hl] at hb
                    have hbe := Option.some.inj hb
                    have hzD : 48 ≤ z ∧ z ≤ 57 := by
                      have h0 := hdg
                      rw [digAt_at hl, hbe] at h0
                      have := isD_iff.1 h0
                      rw [hz] at this
                      exact this
                    obtain ⟨zd1, zd2⟩ := hzD
                    obtain ⟨a3, ha3⟩ : ∃ a3 : Nat, min (10 * (a2 : Int) + ((z : Int) - 48)) 100000 = (a3 : Int) := ⟨(min (10 * (a2 : Int) + ((z : Int) - 48)) 100000).toNat, by omega⟩
                    have HA3 := Lib.hid (show a3 = min (pv ((S.data.toList.drop m1).take (j + 1))) 100000 by
                      have hl2 : m1 + j < S.data.toList.length := by rw [← hm2]; exact hl
                      have e : S.data.toList[m1 + j] = S[m2]'hms := by
                        have hb2 := hb
                        subst hm2
                        exact hbe
                      rw [run_snoc hl2, e, pv_snoc, hz, ← cnt_step (a := a2) (by omega) ha2]
                      omega)
                    have CD4 := Lib.hid (CD3.out m2 (by omega))
                    have HM2 := Lib.hid hm2
                    have HA2 := Lib.hid ha2
                    clear hz hl hb hbe ha2
                    rw [hdg] at CD4
                    clear hdg hm2
                    go_wp2_with fail
                    refine (CD4.out _).mono ?_
                    rintro e w' ⟨rfl, rfl⟩
                    go_wp2_with fail
                    go_round
                    case rel => exact ⟨j + 1, a3, m2 + 1, by omega, by rw [HM2.out]; omega, by go_num, rfl, HA3.out⟩
                    case measure => simp [RowKit.intOf]; have := HM2.out; omega
                  · obtain rfl : c = j := by omega
                    have hdg : digAt S.data.toList m2 = false := by rw [hm2]; exact HRUN.out.2
                    have CD4 := Lib.hid (CD3.out m2 (by have := digAt_lt (l := S.data.toList) (i := m1) (by have := HRUN.out.1 0 hc0; rwa [Nat.add_zero] at this); rw [ba_len] at this; omega))
                    rw [hdg] at CD4
                    have HA2 := Lib.hid ha2
                    have HM2 := Lib.hid hm2
                    have HD9 := HDIG.out
                    clear ha2 hdg hm2 HD9
                    go_wp2_with fail
                    refine (CD4.out _).mono ?_
                    rintro e w' ⟨rfl, rfl⟩
                    go_wp2_with fail
                    refine (CV.out (-(b : Int) + (a2 : Int)) (by omega) (by omega)).mono ?_
                    rintro e w3 ⟨r, rfl, hr, hB3⟩
                    have hB4 := HB.out.trans (hB3.mono HB.out.size)
                    go_wp2_with fail
                    go_ret2
                    refine ⟨r, ?_, ?_, hB4⟩
                    · rw [he.out, ← HM2.out]
                      rfl
                    · have e := HA2.out
                      rw [hx.out, if_neg (by decide), ← e]
                      exact hr
              | plus _ e hk h2 =>
                subst e
                obtain ⟨y2, hy2⟩ : ∃ y, (S[m1]'hk).toNat = y := ⟨_, rfl⟩
                have hyi2 : (((S[m1]'hk).toNat : Nat) : Int) = (y2 : Int) := by rw [hy2]
                rw [hy2] at h2
                have hkl : (m1 : Int) < (S.size : Int) := by omega
                have v1 : ((y2 : Int) == 43) = true := by rw [beq_iff_eq]; omega
                have v2 : ((y2 : Int) == 45) = false := by rw [beq_eq_false_iff_ne]; omega
                obtain ⟨m22, hm22⟩ : ∃ q, m1 + 1 = q := ⟨_, rfl⟩
                have hk1 : (m1 : Int) + 1 = (m22 : Int) := by omega
                rw [hm22] at hc hx he
                have hm2b : m22 ≤ S.size + 2 := by omega
                clear h2 hy2 hm1 hm22
                obtain ⟨D9, hD9⟩ : ∃ D9, (S.data.toList.drop (m22)).take c = D9 := ⟨_, rfl⟩
                have hrun := dig_run S.data.toList (m22)
                rw [hc] at hrun
                have hkb : m22 ≤ S.size + 2 := by omega
                have HRUN := Lib.hid hrun
                have HDIG := Lib.hid hD9
                have CD3 := Lib.hid (fun (i : Nat) (hi : i ≤ 4611686018427387904) W => isDigit_any S i W (by omega) hi)
                have hcs : c ≤ S.size := by rw [← hc]; have := nDig_le (S.data.toList.drop (m22)); rw [List.length_drop, ba_len] at this; omega
                clear hrun hc hD9
                go_wp2_with fail
                refine (CD3.out m22 (by omega) _).mono ?_
                rintro e w' ⟨rfl, rfl⟩
                rw [show digAt S.data.toList m22 = true by have := HRUN.out.1 0 hc0; rwa [Nat.add_zero] at this]
                go_wp2_with fail
                go_loop [10, 12] (fun kv nv => ∃ j a2 m2 : Nat, j ≤ c ∧ m2 = m22 + j ∧ kv = .int .i64 (m2 : Int) ∧ nv = .int .i64 (a2 : Int) ∧ a2 = min (pv ((S.data.toList.drop m22).take j)) 100000) (fun kv _ => m22 + c - (RowKit.intOf kv).toNat)
                case atStart => exact ⟨0, 0, m22, by omega, by omega, rfl, rfl, by rw [List.take_zero, pv_nil, Nat.zero_min]⟩
                case round =>
                  obtain ⟨j, a2, m2, hj, hm2, rfl, rfl, ha2⟩ := hrel
                  have ha2b : a2 ≤ 100000 := by omega
                  by_cases hlt : j < c
                  · have hdg : digAt S.data.toList m2 = true := by rw [hm2]; exact HRUN.out.1 j hlt
                    have hms : m2 < S.size := by have := digAt_lt hdg; rw [ba_len] at this; exact this
                    obtain ⟨z, hz⟩ : ∃ z, (S[m2]'hms).toNat = z := ⟨_, rfl⟩
                    have hzi : (((S[m2]'hms).toNat : Nat) : Int) = (z : Int) := by rw [hz]
                    have hl : m2 < S.data.toList.length := by rw [ba_len]; exact hms
                    have hb := ba_byte S rfl m2 hms
                    rw [List.getElem?_eq_getElem hl] at hb
                    have hbe := Option.some.inj hb
                    have hzD : 48 ≤ z ∧ z ≤ 57 := by
                      have h0 := hdg
                      rw [digAt_at hl, hbe] at h0
                      have := isD_iff.1 h0
                      rw [hz] at this
                      exact this
                    obtain ⟨zd1, zd2⟩ := hzD
                    obtain ⟨a3, ha3⟩ : ∃ a3 : Nat, min (10 * (a2 : Int) + ((z : Int) - 48)) 100000 = (a3 : Int) := ⟨(min (10 * (a2 : Int) + ((z : Int) - 48)) 100000).toNat, by omega⟩
                    have HA3 := Lib.hid (show a3 = min (pv ((S.data.toList.drop m22).take (j + 1))) 100000 by
                      have hl2 : m22 + j < S.data.toList.length := by rw [← hm2]; exact hl
                      have e : S.data.toList[m22 + j] = S[m2]'hms := by
                        have hb2 := hb
                        subst hm2
                        exact hbe
                      rw [run_snoc hl2, e, pv_snoc, hz, ← cnt_step (a := a2) (by omega) ha2]
                      omega)
                    have CD4 := Lib.hid (CD3.out m2 (by omega))
                    have HM2 := Lib.hid hm2
                    have HA2 := Lib.hid ha2
                    clear hz hl hb hbe ha2
                    rw [hdg] at CD4
                    clear hdg hm2
                    go_wp2_with fail
                    refine (CD4.out _).mono ?_
                    rintro e w' ⟨rfl, rfl⟩
                    go_wp2_with fail
                    go_round
                    case rel => exact ⟨j + 1, a3, m2 + 1, by omega, by rw [HM2.out]; omega, by go_num, rfl, HA3.out⟩
                    case measure => simp [RowKit.intOf]; have := HM2.out; omega
                  · obtain rfl : c = j := by omega
                    have hdg : digAt S.data.toList m2 = false := by rw [hm2]; exact HRUN.out.2
                    have CD4 := Lib.hid (CD3.out m2 (by have := digAt_lt (l := S.data.toList) (i := m22) (by have := HRUN.out.1 0 hc0; rwa [Nat.add_zero] at this); rw [ba_len] at this; omega))
                    rw [hdg] at CD4
                    have HA2 := Lib.hid ha2
                    have HM2 := Lib.hid hm2
                    have HD9 := HDIG.out
                    clear ha2 hdg hm2 HD9
                    go_wp2_with fail
                    refine (CD4.out _).mono ?_
                    rintro e w' ⟨rfl, rfl⟩
                    go_wp2_with fail
                    refine (CV.out (-(b : Int) + (a2 : Int)) (by omega) (by omega)).mono ?_
                    rintro e w3 ⟨r, rfl, hr, hB3⟩
                    have hB4 := HB.out.trans (hB3.mono HB.out.size)
                    go_wp2_with fail
                    go_ret2
                    refine ⟨r, ?_, ?_, hB4⟩
                    · rw [he.out, ← HM2.out]
                      rfl
                    · have e := HA2.out
                      rw [hx.out, if_neg (by decide), ← e]
                      exact hr
              | minus _ e hk h2 =>
                subst e
                obtain ⟨y2, hy2⟩ : ∃ y, (S[m1]'hk).toNat = y := ⟨_, rfl⟩
                have hyi2 : (((S[m1]'hk).toNat : Nat) : Int) = (y2 : Int) := by rw [hy2]
                rw [hy2] at h2
                have hkl : (m1 : Int) < (S.size : Int) := by omega
                have v1 : ((y2 : Int) == 43) = false := by rw [beq_eq_false_iff_ne]; omega
                have v2 : ((y2 : Int) == 45) = true := by rw [beq_iff_eq]; omega
                obtain ⟨m22, hm22⟩ : ∃ q, m1 + 1 = q := ⟨_, rfl⟩
                have hk1 : (m1 : Int) + 1 = (m22 : Int) := by omega
                rw [hm22] at hc hx he
                have hm2b : m22 ≤ S.size + 2 := by omega
                clear h2 hy2 hm1 hm22
                obtain ⟨D9, hD9⟩ : ∃ D9, (S.data.toList.drop (m22)).take c = D9 := ⟨_, rfl⟩
                have hrun := dig_run S.data.toList (m22)
                rw [hc] at hrun
                have hkb : m22 ≤ S.size + 2 := by omega
                have HRUN := Lib.hid hrun
                have HDIG := Lib.hid hD9
                have CD3 := Lib.hid (fun (i : Nat) (hi : i ≤ 4611686018427387904) W => isDigit_any S i W (by omega) hi)
                have hcs : c ≤ S.size := by rw [← hc]; have := nDig_le (S.data.toList.drop (m22)); rw [List.length_drop, ba_len] at this; omega
                clear hrun hc hD9
                go_wp2_with fail
                refine (CD3.out m22 (by omega) _).mono ?_
                rintro e w' ⟨rfl, rfl⟩
                rw [show digAt S.data.toList m22 = true by have := HRUN.out.1 0 hc0; rwa [Nat.add_zero] at this]
                go_wp2_with fail
                go_loop [10, 12] (fun kv nv => ∃ j a2 m2 : Nat, j ≤ c ∧ m2 = m22 + j ∧ kv = .int .i64 (m2 : Int) ∧ nv = .int .i64 (a2 : Int) ∧ a2 = min (pv ((S.data.toList.drop m22).take j)) 100000) (fun kv _ => m22 + c - (RowKit.intOf kv).toNat)
                case atStart => exact ⟨0, 0, m22, by omega, by omega, rfl, rfl, by rw [List.take_zero, pv_nil, Nat.zero_min]⟩
                case round =>
                  obtain ⟨j, a2, m2, hj, hm2, rfl, rfl, ha2⟩ := hrel
                  have ha2b : a2 ≤ 100000 := by omega
                  by_cases hlt : j < c
                  · have hdg : digAt S.data.toList m2 = true := by rw [hm2]; exact HRUN.out.1 j hlt
                    have hms : m2 < S.size := by have := digAt_lt hdg; rw [ba_len] at this; exact this
                    obtain ⟨z, hz⟩ : ∃ z, (S[m2]'hms).toNat = z := ⟨_, rfl⟩
                    have hzi : (((S[m2]'hms).toNat : Nat) : Int) = (z : Int) := by rw [hz]
                    have hl : m2 < S.data.toList.length := by rw [ba_len]; exact hms
                    have hb := ba_byte S rfl m2 hms
                    rw [List.getElem?_eq_getElem hl] at hb
                    have hbe := Option.some.inj hb
                    have hzD : 48 ≤ z ∧ z ≤ 57 := by
                      have h0 := hdg
                      rw [digAt_at hl, hbe] at h0
                      have := isD_iff.1 h0
                      rw [hz] at this
                      exact this
                    obtain ⟨zd1, zd2⟩ := hzD
                    obtain ⟨a3, ha3⟩ : ∃ a3 : Nat, min (10 * (a2 : Int) + ((z : Int) - 48)) 100000 = (a3 : Int) := ⟨(min (10 * (a2 : Int) + ((z : Int) - 48)) 100000).toNat, by omega⟩
                    have HA3 := Lib.hid (show a3 = min (pv ((S.data.toList.drop m22).take (j + 1))) 100000 by
                      have hl2 : m22 + j < S.data.toList.length := by rw [← hm2]; exact hl
                      have e : S.data.toList[m22 + j] = S[m2]'hms := by
                        have hb2 := hb
                        subst hm2
                        exact hbe
                      rw [run_snoc hl2, e, pv_snoc, hz, ← cnt_step (a := a2) (by omega) ha2]
                      omega)
                    have CD4 := Lib.hid (CD3.out m2 (by omega))
                    have HM2 := Lib.hid hm2
                    have HA2 := Lib.hid ha2
                    clear hz hl hb hbe ha2
                    rw [hdg] at CD4
                    clear hdg hm2
                    go_wp2_with fail
                    refine (CD4.out _).mono ?_
                    rintro e w' ⟨rfl, rfl⟩
                    go_wp2_with fail
                    go_round
                    case rel => exact ⟨j + 1, a3, m2 + 1, by omega, by rw [HM2.out]; omega, by go_num, rfl, HA3.out⟩
                    case measure => simp [RowKit.intOf]; have := HM2.out; omega
                  · obtain rfl : c = j := by omega
                    have hdg : digAt S.data.toList m2 = false := by rw [hm2]; exact HRUN.out.2
                    have CD4 := Lib.hid (CD3.out m2 (by have := digAt_lt (l := S.data.toList) (i := m22) (by have := HRUN.out.1 0 hc0; rwa [Nat.add_zero] at this); rw [ba_len] at this; omega))
                    rw [hdg] at CD4
                    have HA2 := Lib.hid ha2
                    have HM2 := Lib.hid hm2
                    have HD9 := HDIG.out
                    clear ha2 hdg hm2 HD9
                    go_wp2_with fail
                    refine (CD4.out _).mono ?_
                    rintro e w' ⟨rfl, rfl⟩
                    go_wp2_with fail
                    refine (CV.out (-(b : Int) + -(a2 : Int)) (by omega) (by omega)).mono ?_
                    rintro e w3 ⟨r, rfl, hr, hB3⟩
                    have hB4 := HB.out.trans (hB3.mono HB.out.size)
                    go_wp2_with fail
                    go_ret2
                    refine ⟨r, ?_, ?_, hB4⟩
                    · rw [he.out, ← HM2.out]
                      rfl
                    · have e := HA2.out
                      rw [hx.out, if_pos trivial, ← e]
                      exact hr
set_option maxRecDepth 100000 in
set_option maxHeartbeats 8000000 in
theorem rnum_point_no (S : ByteArray) (f a : Nat) (w : World) (hs9 : S.size ≤ 4000) (_hfl : f ≤ S.size) (ha : nDig (S.data.toList.drop f) = a) (h0 : a = 0) (hq0 : f + a < S.size) (hy0 : (S[f + a]'hq0).toNat = 46) (p b : Nat) (hp : f + a + 1 = p) (hb : nDig (S.data.toList.drop p) = b) (hb0 : 0 < b) (ex : Int) (en : Nat) (hE : EKind S (p + b) ex en) :
    Calls Tryz.prog 104 #[.string S, .int .i64 (f : Int)] w (RNum w ((S.data.toList.drop f).take a ++ (S.data.toList.drop p).take b) (-(b : Int) + ex) en) := by
  obtain ⟨i0, hi, hz0, hz1, hz2⟩ := info_parts info_u8
  have hf := dig_run S.data.toList f
  rw [ha] at hf
  have Hf1 := Lib.hid hf.1
  have Hf2 := Lib.hid hf.2
  have hfs : f ≤ 4611686018427387904 := by omega
  have hal : a ≤ S.size := by omega
  have hbl : b ≤ S.size := by rw [← hb]; have := nDig_le (S.data.toList.drop p); rw [List.length_drop, ba_len] at this; omega
  have hdp := dig_run S.data.toList p
  rw [hb] at hdp
  have Hp1 := Lib.hid hdp.1
  have Hp2 := Lib.hid hdp.2
  have hpl : p ≤ S.size := by omega
  have hsome : decide (0 < a) = false := decide_eq_false (by omega)
  have hsome2 : decide (0 < a + b) = true := decide_eq_true (by omega)
  have CP0 := Lib.hid (fun W => isDigit_any S p W (by omega) (by omega))
  rw [show digAt S.data.toList p = true by have := hdp.1 0 hb0; rwa [Nat.add_zero] at this] at CP0
  have HDd := Lib.hid (show Dec ((S.data.toList.drop f).take a ++ (S.data.toList.drop p).take b) by rw [← ha, ← hb, run_take, run_take]; exact dec_app (dec_takeWhile _) (dec_takeWhile _))
  obtain ⟨X1, hX1⟩ : ∃ X1, (S.data.toList.drop f).take a = X1 := ⟨_, rfl⟩
  have hX1l : X1.length ≤ 4000 := by rw [← hX1, List.length_take, List.length_drop, ba_len]; omega
  rw [hX1] at HDd ⊢
  obtain ⟨DS, hDS⟩ : ∃ DS, X1 ++ (S.data.toList.drop p).take b = DS := ⟨_, rfl⟩
  have hDSl : DS.length ≤ 8000 := by rw [← hDS, List.length_append, List.length_take, List.length_drop, ba_len]; omega
  rw [hDS] at HDd ⊢
  have HDS := Lib.hid hDS
  have HX1 := Lib.hid hX1
  obtain ⟨p0, hp0⟩ : ∃ p0, f + a = p0 := ⟨_, rfl⟩
  have hyi0 : (((S[f + a]'hq0).toNat : Nat) : Int) = 46 := by rw [hy0]; rfl
  have HP0 := Lib.hid hp0
  have hq1 : p0 < S.size := by omega
  have hyi1 : (((S[p0]'hq1).toNat : Nat) : Int) = 46 := by subst hp0; exact hyi0
  have hpp : (p0 : Int) + 1 = (p : Int) := by omega
  have t0 : (p0 : Int) < (S.size : Int) := by omega
  clear hf ha hb hDS hX1 hdp hy0 hyi0 hp hp0
  go_enter Tryz.func104, Tryz.ntmps104
  go_wp2_with fail
  go_loopw [6, 8, 9] (fun iv sv av wr => ∃ (j m n9 : Nat) (v : Value), j ≤ a ∧ m = f + j ∧ iv = .int .i64 (m : Int) ∧ sv = .bool (decide (0 < j)) ∧ av = v ∧ n9 = ((S.data.toList.drop f).take j).length ∧ Own .u8 wr w.heap.size 5 v (cod ((S.data.toList.drop f).take j)) ∧ Below w.heap.size w wr) (fun iv _ _ _ => f + a - (RowKit.intOf iv).toNat)
  case atStart => exact ⟨0, f, 0, _, by omega, by omega, rfl, rfl, rfl, by rw [List.take_zero]; rfl, by rw [List.take_zero]; exact Own.nil _ _ _, Below.refl _ _⟩
  case round =>
    try clear hB
    obtain ⟨j, m, n9, av, hj, hm, rfl, rfl, rfl, hn9, hO, hB⟩ := hrel
    by_cases hlt : j < a
    · exact absurd hlt (by omega)
    · obtain rfl : a = j := by omega
      have hdg : digAt S.data.toList m = false := by rw [hm]; exact Hf2.out
      have CD := Lib.hid (fun W => isDigit_any S m W (by omega) (by omega))
      rw [hdg] at CD
      obtain ⟨A9, c9, rfl, hc91, hc92⟩ := hO.slice
      rw [cod_len, ← hn9] at hc91 ⊢
      rw [HX1.out] at hO hn9
      rw [cod_len, ← hn9] at hO
      have HO9 := Lib.hid hO
      have HB9 := Lib.hid hB
      have HN1 := Lib.hid hn9
      rw [hsome]
      have hmp : m = p0 := by rw [hm, HP0.out]
      rw [hmp] at CD ⊢
      have HS3 := Lib.hid (show false = decide (0 < a + 0) by rw [Nat.add_zero, hsome])
      clear hO hB hn9 hc91 hc92 hdg hm hmp
      go_wp2_with fail
      refine (CD.out _).mono ?_
      rintro e w' ⟨rfl, rfl⟩
      go_wp2_with fail
      refine (CP0.out _).mono ?_
      rintro e w' ⟨rfl, rfl⟩
      go_wp2_with fail
      go_loopw [6, 7, 8, 9] (fun iv ev sv av wr => ∃ (j m n9 : Nat) (v : Value), j ≤ b ∧ m = p + j ∧ iv = .int .i64 (m : Int) ∧ ev = .int .i64 (-(j : Int)) ∧ sv = .bool (decide (0 < a + j)) ∧ av = v ∧ n9 = (X1 ++ (S.data.toList.drop p).take j).length ∧ Own .u8 wr w.heap.size 5 v (cod (X1 ++ (S.data.toList.drop p).take j)) ∧ Below w.heap.size w wr) (fun iv _ _ _ _ => p + b - (RowKit.intOf iv).toNat)
      case atStart => exact ⟨0, p, n9, _, by omega, by omega, rfl, rfl, congrArg Value.bool HS3.out, rfl, by rw [List.take_zero, List.append_nil]; exact HN1.out, by rw [List.take_zero, List.append_nil]; exact HO9.out, HB9.out⟩
      case round =>
        try clear hB
        obtain ⟨j, m, n9, av, hj, hm, rfl, rfl, rfl, rfl, hn9, hO, hB⟩ := hrel
        by_cases hlt : j < b
        · have hdg : digAt S.data.toList m = true := by rw [hm]; exact Hp1.out j hlt
          have hms : m < S.size := by have := digAt_lt hdg; rw [ba_len] at this; exact this
          have CD := Lib.hid (fun W => isDigit_any S m W (by omega) (by omega))
          rw [hdg] at CD
          obtain ⟨z, hz⟩ : ∃ z, (S[m]'hms).toNat = z := ⟨_, rfl⟩
          have hzi : (((S[m]'hms).toNat : Nat) : Int) = (z : Int) := by rw [hz]
          have hzD : 48 ≤ z ∧ z ≤ 57 := by
            have hl : m < S.data.toList.length := by rw [ba_len]; exact hms
            rw [digAt_at hl] at hdg
            have hb := ba_byte S rfl m hms
            rw [List.getElem?_eq_getElem hl] at hb
            rw [Option.some.inj hb] at hdg
            have := isD_iff.1 hdg
            rw [hz] at this
            exact this
          obtain ⟨L, hL⟩ : ∃ L, X1 ++ (S.data.toList.drop p).take j = L := ⟨_, rfl⟩
          rw [hL] at hO hn9
          have hcz : cod L ++ [z] = cod (X1 ++ (S.data.toList.drop p).take (j + 1)) := by
            have hl : p + j < S.data.toList.length := by rw [ba_len, ← hm]; exact hms
            have hb := ba_byte S rfl m hms
            rw [run_snoc hl, ← List.append_assoc, hL]
            have e : S.data.toList[p + j] = S[m]'hms := by
              subst hm
              rw [List.getElem?_eq_getElem hl] at hb
              exact Option.some.inj hb
            rw [e]
            unfold cod
            rw [List.map_append]
            show _ = _ ++ [(S[m]'hms).toNat]
            rw [hz]
          have hLl : L.length ≤ 100000 := by
            rw [← hL]
            simp only [List.length_append, List.length_take, List.length_drop, ba_len]
            omega
          have hlen1 : n9 + 1 = (X1 ++ (S.data.toList.drop p).take (j + 1)).length := by
            have h := congrArg List.length hcz
            rw [List.length_append, cod_len, cod_len] at h
            rw [← h, hn9]
            rfl
          have HLN := Lib.hid hlen1
          clear hlen1
          obtain ⟨A9, c9, rfl, hc91, hc92⟩ := hO.slice
          have hown := hO.row (n := n9) (by rw [cod_len]; exact hn9.symm)
          rw [cod_len, ← hn9] at hown ⊢
          have hn99 : n9 ≤ 100000 := by omega
          have HM := Lib.hid hm
          have HN9 := Lib.hid hn9
          clear hO hL hz hdg hm hc91 hc92 hn9
          go_wp2_with fail
          refine (CD.out _).mono ?_
          rintro e w' ⟨rfl, rfl⟩
          have hsz9 := hB.size
          go_wp2_with (at_builtin; refine wpList_append_own _ rfl _ _ 138 rfl w.heap.size 5 i0 (.int .u8 0) 1 1 Tryz.underlying138 hi hz0 hz1 hz2 rfl (by decide) _ _ _ rfl (hown.alloc _) ⟨wr.heap.size, 0, none⟩ 1 1 [.int .u8 (z : Int)] rfl rfl (cell_one_new _ _ _) ?Pp2 ?Pp3 ?Pp4 ?Pp5 ?_)
          case Pp2 => simp [Value.oneCell']
          case Pp3 => unfold maxLen; omega
          case Pp4 => omega
          case Pp5 => first | omega | (simp; omega)
          intro v1 w1 hown1 hgrow1 _
          have hO1 : Own .u8 w1 w.heap.size 5 v1 (cod L ++ [z]) := Own.snoc hown1 (by rw [cod_len]; exact HN9.out)
          have hB1 := (hB.alloc hB.size _).grown hgrow1 (by simp; have := hB.size; omega) (fun z e => (World.ownsRow.lt hown z e).1)
          rw [hcz] at hO1
          have HO1 := Lib.hid hO1
          have HB1 := Lib.hid hB1
          clear hown hown1 hgrow1 hO1 hB1 hcz
          go_wp2_with fail
          go_roundw
          case rel => exact ⟨j + 1, m + 1, n9 + 1, v1, by omega, by rw [HM.out]; omega, by go_num, congrArg (Value.int .i64) (by omega), congrArg Value.bool (decide_eq_true (by omega)).symm, rfl, HLN.out, HO1.out, HB1.out⟩
          case measure =>
            have := HM.out
            simp [RowKit.intOf]
            omega
        · obtain rfl : b = j := by omega
          have hdg : digAt S.data.toList m = false := by rw [hm]; exact Hp2.out
          have CD := Lib.hid (fun W => isDigit_any S m W (by omega) (by omega))
          rw [hdg] at CD
          obtain ⟨A9, c9, rfl, hc91, hc92⟩ := hO.slice
          rw [cod_len, ← hn9] at hc91 ⊢
          rw [HDS.out] at hO hn9
          have HOR := Lib.hid hO.rd
          have HB := Lib.hid hB
          have hn94 : n9 ≤ 100000 := by rw [hn9, show DS.length = DS.length from rfl]; omega
          have CV := Lib.hid (fun (x : Int) (h0 : -1000000 ≤ x) (h9 : x ≤ 1000000) => rvalue_any A9 n9 c9 (DS) x wr hn9.symm hn94 hc91 (by unfold maxLen at hc92; omega) h0 h9 (HDd.out) HOR.out)
          rw [hsome2]
          subst hm
          obtain ⟨m, hm⟩ : ∃ m, p + b = m := ⟨_, rfl⟩
          rw [hm] at hE CD ⊢
          clear hO hB hn9 hDSl hc91 hc92 hdg hm
          go_wp2_with fail
          refine (CD.out _).mono ?_
          rintro e w' ⟨rfl, rfl⟩
          cases hE with
          | far hx he h =>
            have t1 : ¬ (m : Int) < (S.size : Int) := by omega
            go_wp2_with fail
            refine (CV.out (-(b : Int)) (by omega) (by omega)).mono ?_
            rintro e w3 ⟨r, rfl, hr, hB3⟩
            have hB4 := HB.out.trans (hB3.mono HB.out.size)
            go_wp2_with fail
            go_ret2
            exact ⟨r, by rw [he.out]; rfl, by rw [hx.out, Int.add_zero]; exact hr, hB4⟩
          | other hx he hq h =>
            obtain ⟨y, hy⟩ : ∃ y, (S[m]'hq).toNat = y := ⟨_, rfl⟩
            have hyi : (((S[m]'hq).toNat : Nat) : Int) = (y : Int) := by rw [hy]
            rw [hy] at h
            obtain ⟨o1, o2⟩ := h
            have t1 : (m : Int) < (S.size : Int) := by omega
            have u1 : ((y : Int) == 101) = false := by rw [beq_eq_false_iff_ne]; omega
            have u2 : ((y : Int) == 69) = false := by rw [beq_eq_false_iff_ne]; omega
            clear o1 o2 hy
            go_wp2_with fail
            refine (CV.out (-(b : Int)) (by omega) (by omega)).mono ?_
            rintro e w3 ⟨r, rfl, hr, hB3⟩
            have hB4 := HB.out.trans (hB3.mono HB.out.size)
            go_wp2_with fail
            go_ret2
            exact ⟨r, by rw [he.out]; rfl, by rw [hx.out, Int.add_zero]; exact hr, hB4⟩
          | bare hx he hq h b0 k hs hd =>
            obtain ⟨y, hy⟩ : ∃ y, (S[m]'hq).toNat = y := ⟨_, rfl⟩
            have hyi : (((S[m]'hq).toNat : Nat) : Int) = (y : Int) := by rw [hy]
            rw [hy] at h
            have hE2 : ((y : Int) == 101) = true ∨ (((y : Int) == 101) = false ∧ ((y : Int) == 69) = true) := by
              rcases h with h | h
              · left; rw [beq_iff_eq]; omega
              · right; rw [beq_eq_false_iff_ne, beq_iff_eq]; omega
            clear h hy
            have t1 : (m : Int) < (S.size : Int) := by omega
            obtain ⟨m1, hm1⟩ : ∃ m1, m + 1 = m1 := ⟨_, rfl⟩
            have hk0 : (m : Int) + 1 = (m1 : Int) := by omega
            rw [hm1] at hs
            rcases hE2 with u1 | ⟨u1, u2⟩
            all_goals
              cases hs with
              | far _ e h2 =>
                subst e
                have hkl : ¬ (m1 : Int) < (S.size : Int) := by omega
                clear hm1
                have CD2 := Lib.hid (fun W => isDigit_any S (m1) W (by omega) (by omega))
                rw [hd] at CD2
                go_wp2_with fail
                refine (CD2.out _).mono ?_
                rintro e w' ⟨rfl, rfl⟩
                go_wp2_with fail
                refine (CV.out (-(b : Int)) (by omega) (by omega)).mono ?_
                rintro e w3 ⟨r, rfl, hr, hB3⟩
                have hB4 := HB.out.trans (hB3.mono HB.out.size)
                go_wp2_with fail
                go_ret2
                exact ⟨r, by rw [he.out]; rfl, by rw [hx.out, Int.add_zero]; exact hr, hB4⟩
              | other _ e hk h2 =>
                subst e
                obtain ⟨y2, hy2⟩ : ∃ y, (S[m1]'hk).toNat = y := ⟨_, rfl⟩
                have hyi2 : (((S[m1]'hk).toNat : Nat) : Int) = (y2 : Int) := by rw [hy2]
                rw [hy2] at h2
                have hkl : (m1 : Int) < (S.size : Int) := by omega
                obtain ⟨o1, o2⟩ := h2
                have v1 : ((y2 : Int) == 43) = false := by rw [beq_eq_false_iff_ne]; omega
                have v2 : ((y2 : Int) == 45) = false := by rw [beq_eq_false_iff_ne]; omega
                clear o1 o2 hy2 hm1
                have CD2 := Lib.hid (fun W => isDigit_any S (m1) W (by omega) (by omega))
                rw [hd] at CD2
                go_wp2_with fail
                refine (CD2.out _).mono ?_
                rintro e w' ⟨rfl, rfl⟩
                go_wp2_with fail
                refine (CV.out (-(b : Int)) (by omega) (by omega)).mono ?_
                rintro e w3 ⟨r, rfl, hr, hB3⟩
                have hB4 := HB.out.trans (hB3.mono HB.out.size)
                go_wp2_with fail
                go_ret2
                exact ⟨r, by rw [he.out]; rfl, by rw [hx.out, Int.add_zero]; exact hr, hB4⟩
              | plus _ e hk h2 =>
                subst e
                obtain ⟨y2, hy2⟩ : ∃ y, (S[m1]'hk).toNat = y := ⟨_, rfl⟩
                have hyi2 : (((S[m1]'hk).toNat : Nat) : Int) = (y2 : Int) := by rw [hy2]
                rw [hy2] at h2
                have hkl : (m1 : Int) < (S.size : Int) := by omega
                have v1 : ((y2 : Int) == 43) = true := by rw [beq_iff_eq]; omega
                have v2 : ((y2 : Int) == 45) = false := by rw [beq_eq_false_iff_ne]; omega
                obtain ⟨m22, hm22⟩ : ∃ q, m1 + 1 = q := ⟨_, rfl⟩
                have hk1 : (m1 : Int) + 1 = (m22 : Int) := by omega
                rw [hm22] at hd
                have hm2b : m22 ≤ S.size + 2 := by omega
                clear h2 hy2 hm1 hm22
                have CD2 := Lib.hid (fun W => isDigit_any S (m22) W (by omega) (by omega))
                rw [hd] at CD2
                go_wp2_with fail
                refine (CD2.out _).mono ?_
                rintro e w' ⟨rfl, rfl⟩
                go_wp2_with fail
                refine (CV.out (-(b : Int)) (by omega) (by omega)).mono ?_
                rintro e w3 ⟨r, rfl, hr, hB3⟩
                have hB4 := HB.out.trans (hB3.mono HB.out.size)
                go_wp2_with fail
                go_ret2
                exact ⟨r, by rw [he.out]; rfl, by rw [hx.out, Int.add_zero]; exact hr, hB4⟩
              | minus _ e hk h2 =>
                subst e
                obtain ⟨y2, hy2⟩ : ∃ y, (S[m1]'hk).toNat = y := ⟨_, rfl⟩
                have hyi2 : (((S[m1]'hk).toNat : Nat) : Int) = (y2 : Int) := by rw [hy2]
                rw [hy2] at h2
                have hkl : (m1 : Int) < (S.size : Int) := by omega
                have v1 : ((y2 : Int) == 43) = false := by rw [beq_eq_false_iff_ne]; omega
                have v2 : ((y2 : Int) == 45) = true := by rw [beq_iff_eq]; omega
                obtain ⟨m22, hm22⟩ : ∃ q, m1 + 1 = q := ⟨_, rfl⟩
                have hk1 : (m1 : Int) + 1 = (m22 : Int) := by omega
                rw [hm22] at hd
                have hm2b : m22 ≤ S.size + 2 := by omega
                clear h2 hy2 hm1 hm22
                have CD2 := Lib.hid (fun W => isDigit_any S (m22) W (by omega) (by omega))
                rw [hd] at CD2
                go_wp2_with fail
                refine (CD2.out _).mono ?_
                rintro e w' ⟨rfl, rfl⟩
                go_wp2_with fail
                refine (CV.out (-(b : Int)) (by omega) (by omega)).mono ?_
                rintro e w3 ⟨r, rfl, hr, hB3⟩
                have hB4 := HB.out.trans (hB3.mono HB.out.size)
                go_wp2_with fail
                go_ret2
                exact ⟨r, by rw [he.out]; rfl, by rw [hx.out, Int.add_zero]; exact hr, hB4⟩
          | num hq h b0 k c hs hc hc0 hx he =>
            obtain ⟨y, hy⟩ : ∃ y, (S[m]'hq).toNat = y := ⟨_, rfl⟩
            have hyi : (((S[m]'hq).toNat : Nat) : Int) = (y : Int) := by rw [hy]
            rw [hy] at h
            have hE2 : ((y : Int) == 101) = true ∨ (((y : Int) == 101) = false ∧ ((y : Int) == 69) = true) := by
              rcases h with h | h
              · left; rw [beq_iff_eq]; omega
              · right; rw [beq_eq_false_iff_ne, beq_iff_eq]; omega
            clear h hy
            have t1 : (m : Int) < (S.size : Int) := by omega
            obtain ⟨m1, hm1⟩ : ∃ m1, m + 1 = m1 := ⟨_, rfl⟩
            have hk0 : (m : Int) + 1 = (m1 : Int) := by omega
            rw [hm1] at hs
            rcases hE2 with u1 | ⟨u1, u2⟩
            all_goals
              cases hs with
              | far _ e h2 =>
                subst e
                have hkl : ¬ (m1 : Int) < (S.size : Int) := by omega
                clear hm1
                obtain ⟨D9, hD9⟩ : ∃ D9, (S.data.toList.drop (m1)).take c = D9 := ⟨_, rfl⟩
                have hrun := dig_run S.data.toList (m1)
                rw [hc] at hrun
                have hkb : m1 ≤ S.size + 2 := by omega
                have HRUN := Lib.hid hrun
                have HDIG := Lib.hid hD9
                have CD3 := Lib.hid (fun (i : Nat) (hi : i ≤ 4611686018427387904) W => isDigit_any S i W (by omega) hi)
                have hcs : c ≤ S.size := by rw [← hc]; have := nDig_le (S.data.toList.drop (m1)); rw [List.length_drop, ba_len] at this; omega
                clear hrun hc hD9
                go_wp2_with fail
                refine (CD3.out m1 (by omega) _).mono ?_
                rintro e w' ⟨rfl, rfl⟩
                rw [show digAt S.data.toList m1 = true by have := HRUN.out.1 0 hc0; rwa [Nat.add_zero] at this]
                go_wp2_with fail
                go_loop [10, 12] (fun kv nv => ∃ j a2 m2 : Nat, j ≤ c ∧ m2 = m1 + j ∧ kv = .int .i64 (m2 : Int) ∧ nv = .int .i64 (a2 : Int) ∧ a2 = min (pv ((S.data.toList.drop m1).take j)) 100000) (fun kv _ => m1 + c - (RowKit.intOf kv).toNat)
                case atStart => exact ⟨0, 0, m1, by omega, by omega, rfl, rfl, by rw [List.take_zero, pv_nil, Nat.zero_min]⟩
                case round =>
                  obtain ⟨j, a2, m2, hj, hm2, rfl, rfl, ha2⟩ := hrel
                  have ha2b : a2 ≤ 100000 := by omega
                  by_cases hlt : j < c
                  · have hdg : digAt S.data.toList m2 = true := by rw [hm2]; exact HRUN.out.1 j hlt
                    have hms : m2 < S.size := by have := digAt_lt hdg; rw [ba_len] at this; exact this
                    obtain ⟨z, hz⟩ : ∃ z, (S[m2]'hms).toNat = z := ⟨_, rfl⟩
                    have hzi : (((S[m2]'hms).toNat : Nat) : Int) = (z : Int) := by rw [hz]
                    have hl : m2 < S.data.toList.length := by rw [ba_len]; exact hms
                    have hb := ba_byte S rfl m2 hms
                    rw [List.getElem?_eq_getElem hl] at hb
                    have hbe := Option.some.inj hb
                    have hzD : 48 ≤ z ∧ z ≤ 57 := by
                      have h0 := hdg
                      rw [digAt_at hl, hbe] at h0
                      have := isD_iff.1 h0
                      rw [hz] at this
                      exact this
                    obtain ⟨zd1, zd2⟩ := hzD
                    obtain ⟨a3, ha3⟩ : ∃ a3 : Nat, min (10 * (a2 : Int) + ((z : Int) - 48)) 100000 = (a3 : Int) := ⟨(min (10 * (a2 : Int) + ((z : Int) - 48)) 100000).toNat, by omega⟩
                    have HA3 := Lib.hid (show a3 = min (pv ((S.data.toList.drop m1).take (j + 1))) 100000 by
                      have hl2 : m1 + j < S.data.toList.length := by rw [← hm2]; exact hl
                      have e : S.data.toList[m1 + j] = S[m2]'hms := by
                        have hb2 := hb
                        subst hm2
                        exact hbe
                      rw [run_snoc hl2, e, pv_snoc, hz, ← cnt_step (a := a2) (by omega) ha2]
                      omega)
                    have CD4 := Lib.hid (CD3.out m2 (by omega))
                    have HM2 := Lib.hid hm2
                    have HA2 := Lib.hid ha2
                    clear hz hl hb hbe ha2
                    rw [hdg] at CD4
                    clear hdg hm2
                    go_wp2_with fail
                    refine (CD4.out _).mono ?_
                    rintro e w' ⟨rfl, rfl⟩
                    go_wp2_with fail
                    go_round
                    case rel => exact ⟨j + 1, a3, m2 + 1, by omega, by rw [HM2.out]; omega, by go_num, rfl, HA3.out⟩
                    case measure => simp [RowKit.intOf]; have := HM2.out; omega
                  · obtain rfl : c = j := by omega
                    have hdg : digAt S.data.toList m2 = false := by rw [hm2]; exact HRUN.out.2
                    have CD4 := Lib.hid (CD3.out m2 (by have := digAt_lt (l := S.data.toList) (i := m1) (by have := HRUN.out.1 0 hc0; rwa [Nat.add_zero] at this); rw [ba_len] at this; omega))
                    rw [hdg] at CD4
                    have HA2 := Lib.hid ha2
                    have HM2 := Lib.hid hm2
                    have HD9 := HDIG.out
                    clear ha2 hdg hm2 HD9
                    go_wp2_with fail
                    refine (CD4.out _).mono ?_
                    rintro e w' ⟨rfl, rfl⟩
                    go_wp2_with fail
                    refine (CV.out (-(b : Int) + (a2 : Int)) (by omega) (by omega)).mono ?_
                    rintro e w3 ⟨r, rfl, hr, hB3⟩
                    have hB4 := HB.out.trans (hB3.mono HB.out.size)
                    go_wp2_with fail
                    go_ret2
                    refine ⟨r, ?_, ?_, hB4⟩
                    · rw [he.out, ← HM2.out]
                      rfl
                    · have e := HA2.out
                      rw [hx.out, if_neg (by decide), ← e]
                      exact hr
              | other _ e hk h2 =>
                subst e
                obtain ⟨y2, hy2⟩ : ∃ y, (S[m1]'hk).toNat = y := ⟨_, rfl⟩
                have hyi2 : (((S[m1]'hk).toNat : Nat) : Int) = (y2 : Int) := by rw [hy2]
                rw [hy2] at h2
                have hkl : (m1 : Int) < (S.size : Int) := by omega
                obtain ⟨o1, o2⟩ := h2
                have v1 : ((y2 : Int) == 43) = false := by rw [beq_eq_false_iff_ne]; omega
                have v2 : ((y2 : Int) == 45) = false := by rw [beq_eq_false_iff_ne]; omega
                clear o1 o2 hy2 hm1
                obtain ⟨D9, hD9⟩ : ∃ D9, (S.data.toList.drop (m1)).take c = D9 := ⟨_, rfl⟩
                have hrun := dig_run S.data.toList (m1)
                rw [hc] at hrun
                have hkb : m1 ≤ S.size + 2 := by omega
                have HRUN := Lib.hid hrun
                have HDIG := Lib.hid hD9
                have CD3 := Lib.hid (fun (i : Nat) (hi : i ≤ 4611686018427387904) W => isDigit_any S i W (by omega) hi)
                have hcs : c ≤ S.size := by rw [← hc]; have := nDig_le (S.data.toList.drop (m1)); rw [List.length_drop, ba_len] at this; omega
                clear hrun hc hD9
                go_wp2_with fail
                refine (CD3.out m1 (by omega) _).mono ?_
                rintro e w' ⟨rfl, rfl⟩
                rw [show digAt S.data.toList m1 = true by have := HRUN.out.1 0 hc0; rwa [Nat.add_zero] at this]
                go_wp2_with fail
                go_loop [10, 12] (fun kv nv => ∃ j a2 m2 : Nat, j ≤ c ∧ m2 = m1 + j ∧ kv = .int .i64 (m2 : Int) ∧ nv = .int .i64 (a2 : Int) ∧ a2 = min (pv ((S.data.toList.drop m1).take j)) 100000) (fun kv _ => m1 + c - (RowKit.intOf kv).toNat)
                case atStart => exact ⟨0, 0, m1, by omega, by omega, rfl, rfl, by rw [List.take_zero, pv_nil, Nat.zero_min]⟩
                case round =>
                  obtain ⟨j, a2, m2, hj, hm2, rfl, rfl, ha2⟩ := hrel
                  have ha2b : a2 ≤ 100000 := by omega
                  by_cases hlt : j < c
                  · have hdg : digAt S.data.toList m2 = true := by rw [hm2]; exact HRUN.out.1 j hlt
                    have hms : m2 < S.size := by have := digAt_lt hdg; rw [ba_len] at this; exact this
                    obtain ⟨z, hz⟩ : ∃ z, (S[m2]'hms).toNat = z := ⟨_, rfl⟩
                    have hzi : (((S[m2]'hms).toNat : Nat) : Int) = (z : Int) := by rw [hz]
                    have hl : m2 < S.data.toList.length := by rw [ba_len]; exact hms
                    have hb := ba_byte S rfl m2 hms
                    rw [List.getElem?_eq_getElem hl] at hb
                    have hbe := Option.some.inj hb
                    have hzD : 48 ≤ z ∧ z ≤ 57 := by
                      have h0 := hdg
                      rw [digAt_at hl, hbe] at h0
                      have := isD_iff.1 h0
                      rw [hz] at this
                      exact this
                    obtain ⟨zd1, zd2⟩ := hzD
                    obtain ⟨a3, ha3⟩ : ∃ a3 : Nat, min (10 * (a2 : Int) + ((z : Int) - 48)) 100000 = (a3 : Int) := ⟨(min (10 * (a2 : Int) + ((z : Int) - 48)) 100000).toNat, by omega⟩
                    have HA3 := Lib.hid (show a3 = min (pv ((S.data.toList.drop m1).take (j + 1))) 100000 by
                      have hl2 : m1 + j < S.data.toList.length := by rw [← hm2]; exact hl
                      have e : S.data.toList[m1 + j] = S[m2]'hms := by
                        have hb2 := hb
                        subst hm2
                        exact hbe
                      rw [run_snoc hl2, e, pv_snoc, hz, ← cnt_step (a := a2) (by omega) ha2]
                      omega)
                    have CD4 := Lib.hid (CD3.out m2 (by omega))
                    have HM2 := Lib.hid hm2
                    have HA2 := Lib.hid ha2
                    clear hz hl hb hbe ha2
                    rw [hdg] at CD4
                    clear hdg hm2
                    go_wp2_with fail
                    refine (CD4.out _).mono ?_
                    rintro e w' ⟨rfl, rfl⟩
                    go_wp2_with fail
                    go_round
                    case rel => exact ⟨j + 1, a3, m2 + 1, by omega, by rw [HM2.out]; omega, by go_num, rfl, HA3.out⟩
                    case measure => simp [RowKit.intOf]; have := HM2.out; omega
                  · obtain rfl : c = j := by omega
                    have hdg : digAt S.data.toList m2 = false := by rw [hm2]; exact HRUN.out.2
                    have CD4 := Lib.hid (CD3.out m2 (by have := digAt_lt (l := S.data.toList) (i := m1) (by have := HRUN.out.1 0 hc0; rwa [Nat.add_zero] at this); rw [ba_len] at this; omega))
                    rw [hdg] at CD4
                    have HA2 := Lib.hid ha2
                    have HM2 := Lib.hid hm2
                    have HD9 := HDIG.out
                    clear ha2 hdg hm2 HD9
                    go_wp2_with fail
                    refine (CD4.out _).mono ?_
                    rintro e w' ⟨rfl, rfl⟩
                    go_wp2_with fail
                    refine (CV.out (-(b : Int) + (a2 : Int)) (by omega) (by omega)).mono ?_
                    rintro e w3 ⟨r, rfl, hr, hB3⟩
                    have hB4 := HB.out.trans (hB3.mono HB.out.size)
                    go_wp2_with fail
                    go_ret2
                    refine ⟨r, ?_, ?_, hB4⟩
                    · rw [he.out, ← HM2.out]
                      rfl
                    · have e := HA2.out
                      rw [hx.out, if_neg (by decide), ← e]
                      exact hr
              | plus _ e hk h2 =>
                subst e
                obtain ⟨y2, hy2⟩ : ∃ y, (S[m1]'hk).toNat = y := ⟨_, rfl⟩
                have hyi2 : (((S[m1]'hk).toNat : Nat) : Int) = (y2 : Int) := by rw [hy2]
                rw [hy2] at h2
                have hkl : (m1 : Int) < (S.size : Int) := by omega
                have v1 : ((y2 : Int) == 43) = true := by rw [beq_iff_eq]; omega
                have v2 : ((y2 : Int) == 45) = false := by rw [beq_eq_false_iff_ne]; omega
                obtain ⟨m22, hm22⟩ : ∃ q, m1 + 1 = q := ⟨_, rfl⟩
                have hk1 : (m1 : Int) + 1 = (m22 : Int) := by omega
                rw [hm22] at hc hx he
                have hm2b : m22 ≤ S.size + 2 := by omega
                clear h2 hy2 hm1 hm22
                obtain ⟨D9, hD9⟩ : ∃ D9, (S.data.toList.drop (m22)).take c = D9 := ⟨_, rfl⟩
                have hrun := dig_run S.data.toList (m22)
                rw [hc] at hrun
                have hkb : m22 ≤ S.size + 2 := by omega
                have HRUN := Lib.hid hrun
                have HDIG := Lib.hid hD9
                have CD3 := Lib.hid (fun (i : Nat) (hi : i ≤ 4611686018427387904) W => isDigit_any S i W (by omega) hi)
                have hcs : c ≤ S.size := by rw [← hc]; have := nDig_le (S.data.toList.drop (m22)); rw [List.length_drop, ba_len] at this; omega
                clear hrun hc hD9
                go_wp2_with fail
                refine (CD3.out m22 (by omega) _).mono ?_
                rintro e w' ⟨rfl, rfl⟩
                rw [show digAt S.data.toList m22 = true by have := HRUN.out.1 0 hc0; rwa [Nat.add_zero] at this]
                go_wp2_with fail
                go_loop [10, 12] (fun kv nv => ∃ j a2 m2 : Nat, j ≤ c ∧ m2 = m22 + j ∧ kv = .int .i64 (m2 : Int) ∧ nv = .int .i64 (a2 : Int) ∧ a2 = min (pv ((S.data.toList.drop m22).take j)) 100000) (fun kv _ => m22 + c - (RowKit.intOf kv).toNat)
                case atStart => exact ⟨0, 0, m22, by omega, by omega, rfl, rfl, by rw [List.take_zero, pv_nil, Nat.zero_min]⟩
                case round =>
                  obtain ⟨j, a2, m2, hj, hm2, rfl, rfl, ha2⟩ := hrel
                  have ha2b : a2 ≤ 100000 := by omega
                  by_cases hlt : j < c
                  · have hdg : digAt S.data.toList m2 = true := by rw [hm2]; exact HRUN.out.1 j hlt
                    have hms : m2 < S.size := by have := digAt_lt hdg; rw [ba_len] at this; exact this
                    obtain ⟨z, hz⟩ : ∃ z, (S[m2]'hms).toNat = z := ⟨_, rfl⟩
                    have hzi : (((S[m2]'hms).toNat : Nat) : Int) = (z : Int) := by rw [hz]
                    have hl : m2 < S.data.toList.length := by rw [ba_len]; exact hms
                    have hb := ba_byte S rfl m2 hms
                    rw [List.getElem?_eq_getElem hl] at hb
                    have hbe := Option.some.inj hb
                    have hzD : 48 ≤ z ∧ z ≤ 57 := by
                      have h0 := hdg
                      rw [digAt_at hl, hbe] at h0
                      have := isD_iff.1 h0
                      rw [hz] at this
                      exact this
                    obtain ⟨zd1, zd2⟩ := hzD
                    obtain ⟨a3, ha3⟩ : ∃ a3 : Nat, min (10 * (a2 : Int) + ((z : Int) - 48)) 100000 = (a3 : Int) := ⟨(min (10 * (a2 : Int) + ((z : Int) - 48)) 100000).toNat, by omega⟩
                    have HA3 := Lib.hid (show a3 = min (pv ((S.data.toList.drop m22).take (j + 1))) 100000 by
                      have hl2 : m22 + j < S.data.toList.length := by rw [← hm2]; exact hl
                      have e : S.data.toList[m22 + j] = S[m2]'hms := by
                        have hb2 := hb
                        subst hm2
                        exact hbe
                      rw [run_snoc hl2, e, pv_snoc, hz, ← cnt_step (a := a2) (by omega) ha2]
                      omega)
                    have CD4 := Lib.hid (CD3.out m2 (by omega))
                    have HM2 := Lib.hid hm2
                    have HA2 := Lib.hid ha2
                    clear hz hl hb hbe ha2
                    rw [hdg] at CD4
                    clear hdg hm2
                    go_wp2_with fail
                    refine (CD4.out _).mono ?_
                    rintro e w' ⟨rfl, rfl⟩
                    go_wp2_with fail
                    go_round
                    case rel => exact ⟨j + 1, a3, m2 + 1, by omega, by rw [HM2.out]; omega, by go_num, rfl, HA3.out⟩
                    case measure => simp [RowKit.intOf]; have := HM2.out; omega
                  · obtain rfl : c = j := by omega
                    have hdg : digAt S.data.toList m2 = false := by rw [hm2]; exact HRUN.out.2
                    have CD4 := Lib.hid (CD3.out m2 (by have := digAt_lt (l := S.data.toList) (i := m22) (by have := HRUN.out.1 0 hc0; rwa [Nat.add_zero] at this); rw [ba_len] at this; omega))
                    rw [hdg] at CD4
                    have HA2 := Lib.hid ha2
                    have HM2 := Lib.hid hm2
                    have HD9 := HDIG.out
                    clear ha2 hdg hm2 HD9
                    go_wp2_with fail
                    refine (CD4.out _).mono ?_
                    rintro e w' ⟨rfl, rfl⟩
                    go_wp2_with fail
                    refine (CV.out (-(b : Int) + (a2 : Int)) (by omega) (by omega)).mono ?_
                    rintro e w3 ⟨r, rfl, hr, hB3⟩
                    have hB4 := HB.out.trans (hB3.mono HB.out.size)
                    go_wp2_with fail
                    go_ret2
                    refine ⟨r, ?_, ?_, hB4⟩
                    · rw [he.out, ← HM2.out]
                      rfl
                    · have e := HA2.out
                      rw [hx.out, if_neg (by decide), ← e]
                      exact hr
              | minus _ e hk h2 =>
                subst e
                obtain ⟨y2, hy2⟩ : ∃ y, (S[m1]'hk).toNat = y := ⟨_, rfl⟩
                have hyi2 : (((S[m1]'hk).toNat : Nat) : Int) = (y2 : Int) := by rw [hy2]
                rw [hy2] at h2
                have hkl : (m1 : Int) < (S.size : Int) := by omega
                have v1 : ((y2 : Int) == 43) = false := by rw [beq_eq_false_iff_ne]; omega
                have v2 : ((y2 : Int) == 45) = true := by rw [beq_iff_eq]; omega
                obtain ⟨m22, hm22⟩ : ∃ q, m1 + 1 = q := ⟨_, rfl⟩
                have hk1 : (m1 : Int) + 1 = (m22 : Int) := by omega
                rw [hm22] at hc hx he
                have hm2b : m22 ≤ S.size + 2 := by omega
                clear h2 hy2 hm1 hm22
                obtain ⟨D9, hD9⟩ : ∃ D9, (S.data.toList.drop (m22)).take c = D9 := ⟨_, rfl⟩
                have hrun := dig_run S.data.toList (m22)
                rw [hc] at hrun
                have hkb : m22 ≤ S.size + 2 := by omega
                have HRUN := Lib.hid hrun
                have HDIG := Lib.hid hD9
                have CD3 := Lib.hid (fun (i : Nat) (hi : i ≤ 4611686018427387904) W => isDigit_any S i W (by omega) hi)
                have hcs : c ≤ S.size := by rw [← hc]; have := nDig_le (S.data.toList.drop (m22)); rw [List.length_drop, ba_len] at this; omega
                clear hrun hc hD9
                go_wp2_with fail
                refine (CD3.out m22 (by omega) _).mono ?_
                rintro e w' ⟨rfl, rfl⟩
                rw [show digAt S.data.toList m22 = true by have := HRUN.out.1 0 hc0; rwa [Nat.add_zero] at this]
                go_wp2_with fail
                go_loop [10, 12] (fun kv nv => ∃ j a2 m2 : Nat, j ≤ c ∧ m2 = m22 + j ∧ kv = .int .i64 (m2 : Int) ∧ nv = .int .i64 (a2 : Int) ∧ a2 = min (pv ((S.data.toList.drop m22).take j)) 100000) (fun kv _ => m22 + c - (RowKit.intOf kv).toNat)
                case atStart => exact ⟨0, 0, m22, by omega, by omega, rfl, rfl, by rw [List.take_zero, pv_nil, Nat.zero_min]⟩
                case round =>
                  obtain ⟨j, a2, m2, hj, hm2, rfl, rfl, ha2⟩ := hrel
                  have ha2b : a2 ≤ 100000 := by omega
                  by_cases hlt : j < c
                  · have hdg : digAt S.data.toList m2 = true := by rw [hm2]; exact HRUN.out.1 j hlt
                    have hms : m2 < S.size := by have := digAt_lt hdg; rw [ba_len] at this; exact this
                    obtain ⟨z, hz⟩ : ∃ z, (S[m2]'hms).toNat = z := ⟨_, rfl⟩
                    have hzi : (((S[m2]'hms).toNat : Nat) : Int) = (z : Int) := by rw [hz]
                    have hl : m2 < S.data.toList.length := by rw [ba_len]; exact hms
                    have hb := ba_byte S rfl m2 hms
                    rw [List.getElem?_eq_getElem hl] at hb
                    have hbe := Option.some.inj hb
                    have hzD : 48 ≤ z ∧ z ≤ 57 := by
                      have h0 := hdg
                      rw [digAt_at hl, hbe] at h0
                      have := isD_iff.1 h0
                      rw [hz] at this
                      exact this
                    obtain ⟨zd1, zd2⟩ := hzD
                    obtain ⟨a3, ha3⟩ : ∃ a3 : Nat, min (10 * (a2 : Int) + ((z : Int) - 48)) 100000 = (a3 : Int) := ⟨(min (10 * (a2 : Int) + ((z : Int) - 48)) 100000).toNat, by omega⟩
                    have HA3 := Lib.hid (show a3 = min (pv ((S.data.toList.drop m22).take (j + 1))) 100000 by
                      have hl2 : m22 + j < S.data.toList.length := by rw [← hm2]; exact hl
                      have e : S.data.toList[m22 + j] = S[m2]'hms := by
                        have hb2 := hb
                        subst hm2
                        exact hbe
                      rw [run_snoc hl2, e, pv_snoc, hz, ← cnt_step (a := a2) (by omega) ha2]
                      omega)
                    have CD4 := Lib.hid (CD3.out m2 (by omega))
                    have HM2 := Lib.hid hm2
                    have HA2 := Lib.hid ha2
                    clear hz hl hb hbe ha2
                    rw [hdg] at CD4
                    clear hdg hm2
                    go_wp2_with fail
                    refine (CD4.out _).mono ?_
                    rintro e w' ⟨rfl, rfl⟩
                    go_wp2_with fail
                    go_round
                    case rel => exact ⟨j + 1, a3, m2 + 1, by omega, by rw [HM2.out]; omega, by go_num, rfl, HA3.out⟩
                    case measure => simp [RowKit.intOf]; have := HM2.out; omega
                  · obtain rfl : c = j := by omega
                    have hdg : digAt S.data.toList m2 = false := by rw [hm2]; exact HRUN.out.2
                    have CD4 := Lib.hid (CD3.out m2 (by have := digAt_lt (l := S.data.toList) (i := m22) (by have := HRUN.out.1 0 hc0; rwa [Nat.add_zero] at this); rw [ba_len] at this; omega))
                    rw [hdg] at CD4
                    have HA2 := Lib.hid ha2
                    have HM2 := Lib.hid hm2
                    have HD9 := HDIG.out
                    clear ha2 hdg hm2 HD9
                    go_wp2_with fail
                    refine (CD4.out _).mono ?_
                    rintro e w' ⟨rfl, rfl⟩
                    go_wp2_with fail
                    refine (CV.out (-(b : Int) + -(a2 : Int)) (by omega) (by omega)).mono ?_
                    rintro e w3 ⟨r, rfl, hr, hB3⟩
                    have hB4 := HB.out.trans (hB3.mono HB.out.size)
                    go_wp2_with fail
                    go_ret2
                    refine ⟨r, ?_, ?_, hB4⟩
                    · rw [he.out, ← HM2.out]
                      rfl
                    · have e := HA2.out
                      rw [hx.out, if_pos trivial, ← e]
                      exact hr
end Go.Proofs.YtmceakbjholjpaaGreatDoor
