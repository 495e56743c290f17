/- Contracts of layer 13's definition: Parse, its walk. -/
import Derived.Test.YtelhbkfhalpniaaDoorPCalPd
import Derived.Test.YtelhbkfhalpniaaDoorQt1
import Derived.Test.YtelhbkfhalpniaaDoorQt2
import Derived.Test.YtelhbkfhalpniaaDoorQt3
import Derived.Test.YtelhbkfhalpniaaDoorQt4
import Derived.Test.YtelhbkfhalpniaaDoorQt5
namespace Go.Proofs.YtelhbkfhalpniaaDoor
open Go.RowKit Go.Lib Go.Joins

theorem cal_row_form {w : World} {B n : Nat} {v : Value} {xs : List Value} (h : w.ownsRow B 3 1 v n xs) : ∃ A cap, v = .slice A n cap := by
  obtain ⟨_, ⟨rfl, rfl⟩ | ⟨r, cap, cur, rfl, _⟩⟩ := h
  · exact ⟨none, 0, rfl⟩
  · exact ⟨_, cap, rfl⟩
theorem cal_row_cell {w : World} {B n cap : Nat} {A : Option Addr} {ns : List Int} (h : w.ownsRow B 3 1 (.slice A n cap) n (ns.map (Value.int .i64))) (hn : 0 < n) : ∃ r, A = some ⟨r, 0, none⟩ ∧ B ≤ r ∧ ∀ j, j < n → w.cell? ⟨r, j, none⟩ = (ns.map (Value.int .i64))[j]? := by
  have h0 := h
  obtain ⟨_, ⟨e, rfl⟩ | ⟨r, cap', cur, e, hb, _⟩⟩ := h
  · omega
  · injection e with e1 e2 e3
    subst e1
    subst e3
    exact ⟨r, rfl, hb, fun j hj => h0.cellAt j (by omega)⟩
set_option maxRecDepth 100000 in
set_option maxHeartbeats 8000000 in
theorem cal_rparse_any (S : ByteArray) (w : World) (hS : S.size ≤ 4611686018427387904) : Calls Tryd.prog 9 #[.string S] w fun e w' => e = .returned (.int .i64 (parseZ S.data.toList)) ∧ Below w.heap.size w w' := by
  have CB := Lib.hid risBlank_any
  obtain ⟨i0, hin, hz0, hzz1, hzz2⟩ := info_parts info_i64
  have HG := Lib.hid (fun (j : Nat) (h : j < S.size) => Lib.data_getElem? S j h)
  have HL := Lib.hid (show S.data.toList.length = S.size from rfl)
  have HZ0 := Lib.hid (parse_fin S.data.toList)
  obtain ⟨L, hL⟩ : ∃ L, S.data.toList = L := ⟨_, rfl⟩
  rw [hL] at HG HL HZ0 ⊢
  obtain ⟨Z, hZ⟩ : ∃ Z, parseZ L = Z := ⟨_, rfl⟩
  rw [hZ] at HZ0 ⊢
  clear hL hZ
  obtain ⟨B, hB⟩ : ∃ B, w.heap.size = B := ⟨_, rfl⟩
  have HBel := Lib.hid (show Below B w w by rw [← hB]; exact Below.refl _ _)
  rw [hB]
  have HB0 := Lib.hid hB
  clear hB
  go_enter Tryd.func9, Tryd.ntmps9
  go_wp2_with fail
  go_loopw [3, 4, 5, 6, 7, 8] (fun lv iv _ _ _ _ wr => ∃ (k : Nat) (ns : List Int), k ≤ S.size ∧ ns.length ≤ 6 ∧ iv = .int .i64 (k : Int) ∧ (∃ A c, lv = .slice A ns.length c ∧ Hid (wr.ownsRow B 3 1 (.slice A ns.length c) ns.length (ns.map (Value.int .i64)))) ∧ Hid (Z = finZ (parseN (6 - ns.length) ns (L.drop k))) ∧ Hid (Below B w wr)) (fun _ iv _ _ _ _ _ => S.size - (RowKit.intOf iv).toNat)
  case atStart => exact ⟨0, [], by omega, by decide, rfl, ⟨none, 0, rfl, Lib.hid (World.ownsRow_nil _ _ _ _)⟩, HZ0, HBel⟩
  case round =>
    clear HZ0 HBel
    obtain ⟨k, ns, hk, hns, rfl, ⟨A0, c0, rfl, HO⟩, HZ, HB⟩ := hrel
    by_cases hkS : k < S.size
    · obtain ⟨c, hcS⟩ : ∃ c, S[k]'hkS = c := ⟨_, rfl⟩
      obtain ⟨z, hz⟩ : ∃ z : Nat, c.toNat = z := ⟨_, rfl⟩
      have hc : L[k]? = some c := by rw [← hcS]; exact HG.out k hkS
      have hzz : (((S[k]'hkS).toNat : Nat) : Int) = (z : Int) := by rw [hcS, hz]
      have hkI : (k : Int) < (S.size : Int) := by omega
      have k00 : (0 : Int) ≤ (k : Int) := by omega
      have CBk := fun (W : World) => CB.out c W
      rw [hz] at CBk
      have hzc : ∀ m : UInt8, z = m.toNat ↔ c = m := fun m => ⟨fun h => UInt8.toNat_inj.1 (hz.trans h), fun h => by rw [← hz, h]⟩
      cases hcb : blkB c with
      | true =>
        rw [hcb] at CBk
        have CBk := Lib.hid CBk
        have HQ := Lib.hid (show Z = finZ (parseN (6 - ns.length) ns (L.drop (k + 1))) by rw [HZ.out, drop_at hc, fin_blank _ _ _ _ hcb])
        clear hzc
        go_wp2_with fail
        refine (CBk.out _).mono ?_
        rintro e w' ⟨rfl, rfl⟩
        go_wp2_with fail
        go_roundw
        case rel => exact ⟨k + 1, ns, by omega, hns, by go_num, ⟨A0, c0, rfl, HO⟩, HQ, HB⟩
        case measure => simp [RowKit.intOf]; omega
      | false =>
        rw [hcb] at CBk
        have CBk := Lib.hid CBk
        by_cases h45 : z = 45
        · have e45 : ((z : Int) == 45) = true := by rw [h45]; rfl
          have hc45 := Lib.hid (show c = 45 from (hzc 45).1 h45)
          clear hzc h45 hcS hz
          go_wp2_with fail
          refine (CBk.out _).mono ?_
          rintro e w' ⟨rfl, rfl⟩
          go_wp2_with fail
          have hsig : Sig c true 1 := ⟨Or.inl ⟨hc45.out, rfl, rfl⟩⟩
          have f1 : IntKind.i64.wrap ((k : Int) + 1) = (k : Int) + 1 := by rw [IntKind.wrap_i64]; omega
          go_quiet (fail)
          go_wp2_with fail
          obtain ⟨wx, hwx⟩ : ∃ wx, wr.drewN nq = wx := ⟨_, rfl⟩
          have hbx : Below B w wx := by rw [← hwx]; exact HB.out.trans (below_draws _ _ _)
          have hox : wx.ownsRow B 3 1 (.slice A0 ns.length c0) ns.length (ns.map (Value.int .i64)) := by rw [← hwx]; exact HO.out
          rw [hwx]
          have HB := Lib.hid hbx
          have HO := Lib.hid hox
          clear hwx hbx hox
          go_loop [4, 6] (fun iv nv => ∃ i n : Nat, k + 1 ≤ i ∧ i ≤ S.size ∧ i ≤ k + 8 ∧ n < 10 ^ (i - (k + 1)) ∧ iv = .int .i64 (i : Int) ∧ nv = .int .i64 (n : Int) ∧ Hid (Lib.decFrom 0 ((L.drop (k + 1)).take (i - (k + 1))) = some n) ∧ Hid (∀ j b, k ≤ j → j < i → L[j]? = some b → blkB b = false)) (fun iv _ => S.size - (RowKit.intOf iv).toNat)
          case atStart => exact ⟨k + 1, 0, by omega, by omega, by omega, by simp, by first | rfl | go_num | simp, rfl, Lib.hid (by simp [Lib.decFrom]), Lib.hid (fun j b hj hj2 hb => by obtain rfl : j = k := (by omega); rw [hc] at hb; injection hb with hb; rw [← hb]; exact hcb)⟩
          case round =>
            obtain ⟨i, n, hi0, hi1, hi8, hn, rfl, rfl, HD, HNB⟩ := hrel
            have hpw : 10 ^ (i - (k + 1)) ≤ 100000000 := Nat.pow_le_pow_right (n := 10) (by omega) (show i - (k + 1) ≤ 8 by omega)
            have g1 : IntKind.i64.wrap ((i : Int) - (k : Int)) = (i : Int) - (k : Int) := by rw [IntKind.wrap_i64]; omega
            by_cases hiS : i < S.size
            · obtain ⟨b, hb⟩ : ∃ b, S[i]'hiS = b := ⟨_, rfl⟩
              obtain ⟨y, hy⟩ : ∃ y : Nat, b.toNat = y := ⟨_, rfl⟩
              have hbL : L[i]? = some b := by rw [← hb]; exact HG.out i hiS
              have hyy : (((S[i]'hiS).toNat : Nat) : Int) = (y : Int) := by rw [hb, hy]
              have hiI : (i : Int) < (S.size : Int) := by omega
              have i00 : (0 : Int) ≤ (i : Int) := by omega
              have CBi := fun (W : World) => CB.out b W
              rw [hy] at CBi
              have hy9 : y < 256 := by rw [← hy]; exact b.toNat_lt
              have Hy := Lib.hid hy
              clear hy hb
              cases hbb : blkB b with
              | true =>
                rw [hbb] at CBi
                have CBi := Lib.hid CBi
                obtain ⟨t1, t2⟩ := tok_end hc hcb hsig hi0 (by rw [HL.out]; omega) HNB.out (Or.inr ⟨b, hbL, hbb⟩) HD.out
                by_cases hz1 : i = k + 1
                · have HQ := Lib.hid (HZ.out.trans (fin_no (6 - ns.length) ns hc hcb (Or.inr (by rw [t1, if_pos (Or.inl hz1)]))))
                  have q1 : ((i : Int) == ((k : Int) + 1 : Int)) = true := by rw [beq_iff_eq]; omega
                  clear t1 t2 hz1
                  go_wp2_with fail
                  refine (CBi.out _).mono ?_
                  rintro e w' ⟨rfl, rfl⟩
                  go_wp2_with fail
                  go_ret
                  exact ⟨by rw [HQ.out]; rfl, HB.out⟩
                · have q1 : ((i : Int) == ((k : Int) + 1 : Int)) = false := by rw [beq_eq_false_iff_ne]; omega
                  by_cases hz2 : 7 < i - k
                  · have HQ := Lib.hid (HZ.out.trans (fin_no (6 - ns.length) ns hc hcb (Or.inr (by rw [t1, if_pos (Or.inr hz2)]))))
                    have q2 : (7 : Int) < (i : Int) - (k : Int) := by omega
                    clear t1 t2 hz1 hz2
                    go_wp2_with fail
                    refine (CBi.out _).mono ?_
                    rintro e w' ⟨rfl, rfl⟩
                    go_wp2_with fail
                    go_ret
                    exact ⟨by rw [HQ.out]; rfl, HB.out⟩
                  · have q2 : ¬ (7 : Int) < (i : Int) - (k : Int) := by omega
                    rw [if_neg (by omega)] at t1
                    have t1 : wholeZ ((L.drop k).takeWhile nbB) = some (-(n : Int)) := t1
                    have hown := HO.out
                    have hbel := HB.out
                    have hsz : B ≤ wx.heap.size := by have := hbel.size; have := HB0.out; omega
                    have w7 : IntKind.i64.wrap (-(n : Int)) = -(n : Int) := by rw [IntKind.wrap_i64]; omega
                    skip
                    go_wp2_with fail
                    refine (CBi.out _).mono ?_
                    rintro e w' ⟨rfl, rfl⟩
                    go_wp2_with (at_builtin; refine wpList_append_own _ rfl _ _ 49 rfl B 3 i0 (.int .i64 0) 1 8 Tryd.underlying49 hin hz0 hzz1 hzz2 rfl (by decide) _ _ _ rfl (hown.alloc _) ⟨wx.heap.size, 0, none⟩ 1 1 [.int .i64 (-(n : Int))] rfl rfl (cell_one_new _ _ _) ?c2 ?c3 ?c4 ?c5 ?_)
                    case c2 => simp [Value.oneCell']
                    case c3 => unfold maxLen; omega
                    case c4 => omega
                    case c5 => first | omega | (simp; omega)
                    intro v' w5 hown' hgrow hnil
                    have hB1 : Below B w w5 := (hbel.alloc hsz _).grown hgrow (by simp; omega) (fun z e => (hown.lt z e).1)
                    have hlen : (ns ++ [(-(n : Int))]).length = ns.length + 1 := by simp
                    have ho2 : w5.ownsRow B 3 1 v' (ns ++ [(-(n : Int))]).length ((ns ++ [(-(n : Int))]).map (Value.int .i64)) := by
                      rw [hlen, List.map_append]
                      exact hown'
                    obtain ⟨A5, c5, hv5⟩ := cal_row_form ho2
                    rw [hlen] at hv5
                    subst hv5
                    by_cases h6 : ns.length = 6
                    · have HQ := Lib.hid (HZ.out.trans (fin_no (6 - ns.length) ns hc hcb (Or.inl (by omega))))
                      have q6 : (6 : Int) < ((ns.length + 1 : Nat) : Int) := by omega
                      have HB := Lib.hid hB1
                      clear t1 t2 hown hbel hown' hgrow hnil hB1 hlen ho2
                      go_wp2_with fail
                      go_ret
                      exact ⟨by rw [HQ.out]; rfl, HB.out⟩
                    · have q6 : ¬ (6 : Int) < ((ns.length + 1 : Nat) : Int) := by omega
                      have HQ := Lib.hid (show Z = finZ (parseN (6 - (ns ++ [(-(n : Int))]).length) (ns ++ [(-(n : Int))]) (L.drop i)) from by
                        rw [hlen, HZ.out, show 6 - ns.length = (6 - (ns.length + 1)) + 1 by omega, fin_yes (v := -(n : Int)) _ ns hc hcb t1 t2])
                      have HB := Lib.hid hB1
                      have HO := Lib.hid ho2
                      have h6' : (ns ++ [(-(n : Int))]).length ≤ 6 := by omega
                      clear t1 t2 hown hbel hown' hgrow hnil hB1 ho2
                      go_wp2_with fail
                      go_roundw
                      case rel => exact ⟨i, ns ++ [(-(n : Int))], by omega, h6', by go_num, ⟨A5, c5, by rw [hlen], Lib.hid (by have := HO.out; rw [hlen] at this ⊢; exact this)⟩, HQ, HB⟩
                      case measure => simp [RowKit.intOf]; omega
              | false =>
                rw [hbb] at CBi
                have CBi := Lib.hid CBi
                have hN2 : ∀ j b, k ≤ j → j ≤ i → L[j]? = some b → blkB b = false := fun j b' hj hj2 hb' => by
                  rcases Nat.lt_or_ge j i with h | h
                  · exact HNB.out j b' hj h hb'
                  · obtain rfl : j = i := by omega
                    rw [hbL] at hb'; injection hb' with hb'; rw [← hb']; exact hbb
                by_cases hdg : 48 ≤ y ∧ y ≤ 57
                · have y1 : ¬ (y : Int) < 48 := by omega
                  have y2 : ¬ (57 : Int) < (y : Int) := by omega
                  by_cases h7 : 7 < i - k
                  · have HQ := Lib.hid (HZ.out.trans (fin_no (6 - ns.length) ns hc hcb (Or.inr (tok_bad2 (by omega) hN2 hbL h7))))
                    have q2 : (7 : Int) < (i : Int) - (k : Int) := by omega
                    clear hN2 h7 hdg
                    go_wp2_with fail
                    refine (CBi.out _).mono ?_
                    rintro e w' ⟨rfl, rfl⟩
                    go_wp2_with fail
                    go_ret
                    exact ⟨by rw [HQ.out]; rfl, HB.out⟩
                  · have q2 : ¬ (7 : Int) < (i : Int) - (k : Int) := by omega
                    have hdv : Lib.digitVal b = some (y - 48) := by unfold Lib.digitVal; rw [Hy.out, if_pos hdg]
                    have hst := Lib.decFrom_take (L.drop (k + 1)) (i - (k + 1)) 0 n b (y - 48) HD.out (by rw [List.getElem?_drop, show k + 1 + (i - (k + 1)) = i by omega]; exact hbL) hdv
                    rw [show i - (k + 1) + 1 = i + 1 - (k + 1) by omega] at hst
                    have hn2 : n * 10 + (y - 48) < 10 ^ (i + 1 - (k + 1)) := by
                      rw [show i + 1 - (k + 1) = (i - (k + 1)) + 1 by omega, Nat.pow_succ]; omega
                    have HD2 := Lib.hid hst
                    have HN2 := Lib.hid (fun j b (hj : k ≤ j) (hj2 : j < i + 1) hb => hN2 j b hj (by omega) hb)
                    have m1 : IntKind.i64.wrap (10 * (n : Int)) = 10 * (n : Int) := by rw [IntKind.wrap_i64]; omega
                    have m2 : IntKind.u8.wrap ((y : Int) - 48) = ((y - 48 : Nat) : Int) := by rw [IntKind.wrap_u8]; omega
                    obtain ⟨dd, hdd⟩ : ∃ dd, y - 48 = dd := ⟨_, rfl⟩
                    rw [hdd] at m2 hn2 HD2
                    have m3 : IntKind.i64.wrap (dd : Int) = (dd : Int) := by rw [IntKind.wrap_i64]; omega
                    have m4 : IntKind.i64.wrap (10 * (n : Int) + (dd : Int)) = ((n * 10 + dd : Nat) : Int) := by rw [IntKind.wrap_i64]; omega
                    have m5 : IntKind.i64.wrap ((i : Int) + 1) = (i : Int) + 1 := by rw [IntKind.wrap_i64]; omega
                    obtain ⟨n2, hnn⟩ : ∃ n2, n * 10 + dd = n2 := ⟨_, rfl⟩
                    rw [hnn] at m4 hn2 HD2
                    clear hN2 h7 hdg hst hdv hdd hnn
                    go_wp2_with fail
                    refine (CBi.out _).mono ?_
                    rintro e w' ⟨rfl, rfl⟩
                    go_wp2_with fail
                    go_round
                    case rel => exact ⟨i + 1, n2, by omega, by omega, by omega, hn2, by go_num, rfl, HD2, HN2⟩
                    case measure => simp [RowKit.intOf]; omega
                · have HQ := Lib.hid (HZ.out.trans (fin_no (6 - ns.length) ns hc hcb (Or.inr (tok_bad1 hc hsig hi0 hN2 hbL (by unfold Lib.digitVal; rw [Hy.out, if_neg hdg])))))
                  by_cases hlow : y < 48
                  · have y1 : (y : Int) < 48 := by omega
                    clear hN2 hdg
                    go_wp2_with fail
                    refine (CBi.out _).mono ?_
                    rintro e w' ⟨rfl, rfl⟩
                    go_wp2_with fail
                    go_ret
                    exact ⟨by rw [HQ.out]; rfl, HB.out⟩
                  · have y1 : ¬ (y : Int) < 48 := by omega
                    have y2 : (57 : Int) < (y : Int) := by omega
                    clear hN2 hdg
                    go_wp2_with fail
                    refine (CBi.out _).mono ?_
                    rintro e w' ⟨rfl, rfl⟩
                    go_wp2_with fail
                    go_ret
                    exact ⟨by rw [HQ.out]; rfl, HB.out⟩
            · have hii : i = S.size := by omega
              have hiI : ¬ (i : Int) < (S.size : Int) := by omega
              obtain ⟨t1, t2⟩ := tok_end hc hcb hsig hi0 (by rw [HL.out]; omega) HNB.out (Or.inl (by rw [HL.out]; exact hii)) HD.out
              clear hii
              by_cases hz1 : i = k + 1
              · have HQ := Lib.hid (HZ.out.trans (fin_no (6 - ns.length) ns hc hcb (Or.inr (by rw [t1, if_pos (Or.inl hz1)]))))
                have q1 : ((i : Int) == ((k : Int) + 1 : Int)) = true := by rw [beq_iff_eq]; omega
                clear t1 t2 hz1
                go_wp2_with fail
                go_ret
                exact ⟨by rw [HQ.out]; rfl, HB.out⟩
              · have q1 : ((i : Int) == ((k : Int) + 1 : Int)) = false := by rw [beq_eq_false_iff_ne]; omega
                by_cases hz2 : 7 < i - k
                · have HQ := Lib.hid (HZ.out.trans (fin_no (6 - ns.length) ns hc hcb (Or.inr (by rw [t1, if_pos (Or.inr hz2)]))))
                  have q2 : (7 : Int) < (i : Int) - (k : Int) := by omega
                  clear t1 t2 hz1 hz2
                  go_wp2_with fail
                  go_ret
                  exact ⟨by rw [HQ.out]; rfl, HB.out⟩
                · have q2 : ¬ (7 : Int) < (i : Int) - (k : Int) := by omega
                  rw [if_neg (by omega)] at t1
                  have t1 : wholeZ ((L.drop k).takeWhile nbB) = some (-(n : Int)) := t1
                  have hown := HO.out
                  have hbel := HB.out
                  have hsz : B ≤ wx.heap.size := by have := hbel.size; have := HB0.out; omega
                  have w7 : IntKind.i64.wrap (-(n : Int)) = -(n : Int) := by rw [IntKind.wrap_i64]; omega
                  skip
                  go_wp2_with (at_builtin; refine wpList_append_own _ rfl _ _ 49 rfl B 3 i0 (.int .i64 0) 1 8 Tryd.underlying49 hin hz0 hzz1 hzz2 rfl (by decide) _ _ _ rfl (hown.alloc _) ⟨wx.heap.size, 0, none⟩ 1 1 [.int .i64 (-(n : Int))] rfl rfl (cell_one_new _ _ _) ?c2 ?c3 ?c4 ?c5 ?_)
                  case c2 => simp [Value.oneCell']
                  case c3 => unfold maxLen; omega
                  case c4 => omega
                  case c5 => first | omega | (simp; omega)
                  intro v' w5 hown' hgrow hnil
                  have hB1 : Below B w w5 := (hbel.alloc hsz _).grown hgrow (by simp; omega) (fun z e => (hown.lt z e).1)
                  have hlen : (ns ++ [(-(n : Int))]).length = ns.length + 1 := by simp
                  have ho2 : w5.ownsRow B 3 1 v' (ns ++ [(-(n : Int))]).length ((ns ++ [(-(n : Int))]).map (Value.int .i64)) := by
                    rw [hlen, List.map_append]
                    exact hown'
                  obtain ⟨A5, c5, hv5⟩ := cal_row_form ho2
                  rw [hlen] at hv5
                  subst hv5
                  by_cases h6 : ns.length = 6
                  · have HQ := Lib.hid (HZ.out.trans (fin_no (6 - ns.length) ns hc hcb (Or.inl (by omega))))
                    have q6 : (6 : Int) < ((ns.length + 1 : Nat) : Int) := by omega
                    have HB := Lib.hid hB1
                    clear t1 t2 hown hbel hown' hgrow hnil hB1 hlen ho2
                    go_wp2_with fail
                    go_ret
                    exact ⟨by rw [HQ.out]; rfl, HB.out⟩
                  · have q6 : ¬ (6 : Int) < ((ns.length + 1 : Nat) : Int) := by omega
                    have HQ := Lib.hid (show Z = finZ (parseN (6 - (ns ++ [(-(n : Int))]).length) (ns ++ [(-(n : Int))]) (L.drop i)) from by
                      rw [hlen, HZ.out, show 6 - ns.length = (6 - (ns.length + 1)) + 1 by omega, fin_yes (v := -(n : Int)) _ ns hc hcb t1 t2])
                    have HB := Lib.hid hB1
                    have HO := Lib.hid ho2
                    have h6' : (ns ++ [(-(n : Int))]).length ≤ 6 := by omega
                    clear t1 t2 hown hbel hown' hgrow hnil hB1 ho2
                    go_wp2_with fail
                    go_roundw
                    case rel => exact ⟨i, ns ++ [(-(n : Int))], by omega, h6', by go_num, ⟨A5, c5, by rw [hlen], Lib.hid (by have := HO.out; rw [hlen] at this ⊢; exact this)⟩, HQ, HB⟩
                    case measure => simp [RowKit.intOf]; omega
        · have e45 : ((z : Int) == 45) = false := by rw [beq_eq_false_iff_ne]; omega
          by_cases h43 : z = 43
          · have e43 : ((z : Int) == 43) = true := by rw [h43]; rfl
            have hc43 := Lib.hid (show c = 43 from (hzc 43).1 h43)
            clear hzc h45 h43 hcS hz
            go_wp2_with fail
            refine (CBk.out _).mono ?_
            rintro e w' ⟨rfl, rfl⟩
            go_wp2_with fail
            have hsig : Sig c false 1 := ⟨Or.inr (Or.inl ⟨hc43.out, rfl, rfl⟩)⟩
            have f1 : IntKind.i64.wrap ((k : Int) + 1) = (k : Int) + 1 := by rw [IntKind.wrap_i64]; omega
            go_quiet (fail)
            go_wp2_with fail
            obtain ⟨wx, hwx⟩ : ∃ wx, wr.drewN nq = wx := ⟨_, rfl⟩
            have hbx : Below B w wx := by rw [← hwx]; exact HB.out.trans (below_draws _ _ _)
            have hox : wx.ownsRow B 3 1 (.slice A0 ns.length c0) ns.length (ns.map (Value.int .i64)) := by rw [← hwx]; exact HO.out
            rw [hwx]
            have HB := Lib.hid hbx
            have HO := Lib.hid hox
            clear hwx hbx hox
            go_loop [4, 6] (fun iv nv => ∃ i n : Nat, k + 1 ≤ i ∧ i ≤ S.size ∧ i ≤ k + 8 ∧ n < 10 ^ (i - (k + 1)) ∧ iv = .int .i64 (i : Int) ∧ nv = .int .i64 (n : Int) ∧ Hid (Lib.decFrom 0 ((L.drop (k + 1)).take (i - (k + 1))) = some n) ∧ Hid (∀ j b, k ≤ j → j < i → L[j]? = some b → blkB b = false)) (fun iv _ => S.size - (RowKit.intOf iv).toNat)
            case atStart => exact ⟨k + 1, 0, by omega, by omega, by omega, by simp, by first | rfl | go_num | simp, rfl, Lib.hid (by simp [Lib.decFrom]), Lib.hid (fun j b hj hj2 hb => by obtain rfl : j = k := (by omega); rw [hc] at hb; injection hb with hb; rw [← hb]; exact hcb)⟩
            case round =>
              obtain ⟨i, n, hi0, hi1, hi8, hn, rfl, rfl, HD, HNB⟩ := hrel
              have hpw : 10 ^ (i - (k + 1)) ≤ 100000000 := Nat.pow_le_pow_right (n := 10) (by omega) (show i - (k + 1) ≤ 8 by omega)
              have g1 : IntKind.i64.wrap ((i : Int) - (k : Int)) = (i : Int) - (k : Int) := by rw [IntKind.wrap_i64]; omega
              by_cases hiS : i < S.size
              · obtain ⟨b, hb⟩ : ∃ b, S[i]'hiS = b := ⟨_, rfl⟩
                obtain ⟨y, hy⟩ : ∃ y : Nat, b.toNat = y := ⟨_, rfl⟩
                have hbL : L[i]? = some b := by rw [← hb]; exact HG.out i hiS
                have hyy : (((S[i]'hiS).toNat : Nat) : Int) = (y : Int) := by rw [hb, hy]
                have hiI : (i : Int) < (S.size : Int) := by omega
                have i00 : (0 : Int) ≤ (i : Int) := by omega
                have CBi := fun (W : World) => CB.out b W
                rw [hy] at CBi
                have hy9 : y < 256 := by rw [← hy]; exact b.toNat_lt
                have Hy := Lib.hid hy
                clear hy hb
                cases hbb : blkB b with
                | true =>
                  rw [hbb] at CBi
                  have CBi := Lib.hid CBi
                  obtain ⟨t1, t2⟩ := tok_end hc hcb hsig hi0 (by rw [HL.out]; omega) HNB.out (Or.inr ⟨b, hbL, hbb⟩) HD.out
                  by_cases hz1 : i = k + 1
                  · have HQ := Lib.hid (HZ.out.trans (fin_no (6 - ns.length) ns hc hcb (Or.inr (by rw [t1, if_pos (Or.inl hz1)]))))
                    have q1 : ((i : Int) == ((k : Int) + 1 : Int)) = true := by rw [beq_iff_eq]; omega
                    clear t1 t2 hz1
                    go_wp2_with fail
                    refine (CBi.out _).mono ?_
                    rintro e w' ⟨rfl, rfl⟩
                    go_wp2_with fail
                    go_ret
                    exact ⟨by rw [HQ.out]; rfl, HB.out⟩
                  · have q1 : ((i : Int) == ((k : Int) + 1 : Int)) = false := by rw [beq_eq_false_iff_ne]; omega
                    by_cases hz2 : 7 < i - k
                    · have HQ := Lib.hid (HZ.out.trans (fin_no (6 - ns.length) ns hc hcb (Or.inr (by rw [t1, if_pos (Or.inr hz2)]))))
                      have q2 : (7 : Int) < (i : Int) - (k : Int) := by omega
                      clear t1 t2 hz1 hz2
                      go_wp2_with fail
                      refine (CBi.out _).mono ?_
                      rintro e w' ⟨rfl, rfl⟩
                      go_wp2_with fail
                      go_ret
                      exact ⟨by rw [HQ.out]; rfl, HB.out⟩
                    · have q2 : ¬ (7 : Int) < (i : Int) - (k : Int) := by omega
                      rw [if_neg (by omega)] at t1
                      have t1 : wholeZ ((L.drop k).takeWhile nbB) = some ((n : Int)) := t1
                      have hown := HO.out
                      have hbel := HB.out
                      have hsz : B ≤ wx.heap.size := by have := hbel.size; have := HB0.out; omega
                      have w7 : IntKind.i64.wrap (-(n : Int)) = -(n : Int) := by rw [IntKind.wrap_i64]; omega
                      skip
                      go_wp2_with fail
                      refine (CBi.out _).mono ?_
                      rintro e w' ⟨rfl, rfl⟩
                      go_wp2_with (at_builtin; refine wpList_append_own _ rfl _ _ 49 rfl B 3 i0 (.int .i64 0) 1 8 Tryd.underlying49 hin hz0 hzz1 hzz2 rfl (by decide) _ _ _ rfl (hown.alloc _) ⟨wx.heap.size, 0, none⟩ 1 1 [.int .i64 ((n : Int))] rfl rfl (cell_one_new _ _ _) ?c2 ?c3 ?c4 ?c5 ?_)
                      case c2 => simp [Value.oneCell']
                      case c3 => unfold maxLen; omega
                      case c4 => omega
                      case c5 => first | omega | (simp; omega)
                      intro v' w5 hown' hgrow hnil
                      have hB1 : Below B w w5 := (hbel.alloc hsz _).grown hgrow (by simp; omega) (fun z e => (hown.lt z e).1)
                      have hlen : (ns ++ [((n : Int))]).length = ns.length + 1 := by simp
                      have ho2 : w5.ownsRow B 3 1 v' (ns ++ [((n : Int))]).length ((ns ++ [((n : Int))]).map (Value.int .i64)) := by
                        rw [hlen, List.map_append]
                        exact hown'
                      obtain ⟨A5, c5, hv5⟩ := cal_row_form ho2
                      rw [hlen] at hv5
                      subst hv5
                      by_cases h6 : ns.length = 6
                      · have HQ := Lib.hid (HZ.out.trans (fin_no (6 - ns.length) ns hc hcb (Or.inl (by omega))))
                        have q6 : (6 : Int) < ((ns.length + 1 : Nat) : Int) := by omega
                        have HB := Lib.hid hB1
                        clear t1 t2 hown hbel hown' hgrow hnil hB1 hlen ho2
                        go_wp2_with fail
                        go_ret
                        exact ⟨by rw [HQ.out]; rfl, HB.out⟩
                      · have q6 : ¬ (6 : Int) < ((ns.length + 1 : Nat) : Int) := by omega
                        have HQ := Lib.hid (show Z = finZ (parseN (6 - (ns ++ [((n : Int))]).length) (ns ++ [((n : Int))]) (L.drop i)) from by
                          rw [hlen, HZ.out, show 6 - ns.length = (6 - (ns.length + 1)) + 1 by omega, fin_yes (v := (n : Int)) _ ns hc hcb t1 t2])
                        have HB := Lib.hid hB1
                        have HO := Lib.hid ho2
                        have h6' : (ns ++ [((n : Int))]).length ≤ 6 := by omega
                        clear t1 t2 hown hbel hown' hgrow hnil hB1 ho2
                        go_wp2_with fail
                        go_roundw
                        case rel => exact ⟨i, ns ++ [((n : Int))], by omega, h6', by go_num, ⟨A5, c5, by rw [hlen], Lib.hid (by have := HO.out; rw [hlen] at this ⊢; exact this)⟩, HQ, HB⟩
                        case measure => simp [RowKit.intOf]; omega
                | false =>
                  rw [hbb] at CBi
                  have CBi := Lib.hid CBi
                  have hN2 : ∀ j b, k ≤ j → j ≤ i → L[j]? = some b → blkB b = false := fun j b' hj hj2 hb' => by
                    rcases Nat.lt_or_ge j i with h | h
                    · exact HNB.out j b' hj h hb'
                    · obtain rfl : j = i := by omega
                      rw [hbL] at hb'; injection hb' with hb'; rw [← hb']; exact hbb
                  by_cases hdg : 48 ≤ y ∧ y ≤ 57
                  · have y1 : ¬ (y : Int) < 48 := by omega
                    have y2 : ¬ (57 : Int) < (y : Int) := by omega
                    by_cases h7 : 7 < i - k
                    · have HQ := Lib.hid (HZ.out.trans (fin_no (6 - ns.length) ns hc hcb (Or.inr (tok_bad2 (by omega) hN2 hbL h7))))
                      have q2 : (7 : Int) < (i : Int) - (k : Int) := by omega
                      clear hN2 h7 hdg
                      go_wp2_with fail
                      refine (CBi.out _).mono ?_
                      rintro e w' ⟨rfl, rfl⟩
                      go_wp2_with fail
                      go_ret
                      exact ⟨by rw [HQ.out]; rfl, HB.out⟩
                    · have q2 : ¬ (7 : Int) < (i : Int) - (k : Int) := by omega
                      have hdv : Lib.digitVal b = some (y - 48) := by unfold Lib.digitVal; rw [Hy.out, if_pos hdg]
                      have hst := Lib.decFrom_take (L.drop (k + 1)) (i - (k + 1)) 0 n b (y - 48) HD.out (by rw [List.getElem?_drop, show k + 1 + (i - (k + 1)) = i by omega]; exact hbL) hdv
                      rw [show i - (k + 1) + 1 = i + 1 - (k + 1) by omega] at hst
                      have hn2 : n * 10 + (y - 48) < 10 ^ (i + 1 - (k + 1)) := by
                        rw [show i + 1 - (k + 1) = (i - (k + 1)) + 1 by omega, Nat.pow_succ]; omega
                      have HD2 := Lib.hid hst
                      have HN2 := Lib.hid (fun j b (hj : k ≤ j) (hj2 : j < i + 1) hb => hN2 j b hj (by omega) hb)
                      have m1 : IntKind.i64.wrap (10 * (n : Int)) = 10 * (n : Int) := by rw [IntKind.wrap_i64]; omega
                      have m2 : IntKind.u8.wrap ((y : Int) - 48) = ((y - 48 : Nat) : Int) := by rw [IntKind.wrap_u8]; omega
                      obtain ⟨dd, hdd⟩ : ∃ dd, y - 48 = dd := ⟨_, rfl⟩
                      rw [hdd] at m2 hn2 HD2
                      have m3 : IntKind.i64.wrap (dd : Int) = (dd : Int) := by rw [IntKind.wrap_i64]; omega
                      have m4 : IntKind.i64.wrap (10 * (n : Int) + (dd : Int)) = ((n * 10 + dd : Nat) : Int) := by rw [IntKind.wrap_i64]; omega
                      have m5 : IntKind.i64.wrap ((i : Int) + 1) = (i : Int) + 1 := by rw [IntKind.wrap_i64]; omega
                      obtain ⟨n2, hnn⟩ : ∃ n2, n * 10 + dd = n2 := ⟨_, rfl⟩
                      rw [hnn] at m4 hn2 HD2
                      clear hN2 h7 hdg hst hdv hdd hnn
                      go_wp2_with fail
                      refine (CBi.out _).mono ?_
                      rintro e w' ⟨rfl, rfl⟩
                      go_wp2_with fail
                      go_round
                      case rel => exact ⟨i + 1, n2, by omega, by omega, by omega, hn2, by go_num, rfl, HD2, HN2⟩
                      case measure => simp [RowKit.intOf]; omega
                  · have HQ := Lib.hid (HZ.out.trans (fin_no (6 - ns.length) ns hc hcb (Or.inr (tok_bad1 hc hsig hi0 hN2 hbL (by unfold Lib.digitVal; rw [Hy.out, if_neg hdg])))))
                    by_cases hlow : y < 48
                    · have y1 : (y : Int) < 48 := by omega
                      clear hN2 hdg
                      go_wp2_with fail
                      refine (CBi.out _).mono ?_
                      rintro e w' ⟨rfl, rfl⟩
                      go_wp2_with fail
                      go_ret
                      exact ⟨by rw [HQ.out]; rfl, HB.out⟩
                    · have y1 : ¬ (y : Int) < 48 := by omega
                      have y2 : (57 : Int) < (y : Int) := by omega
                      clear hN2 hdg
                      go_wp2_with fail
                      refine (CBi.out _).mono ?_
                      rintro e w' ⟨rfl, rfl⟩
                      go_wp2_with fail
                      go_ret
                      exact ⟨by rw [HQ.out]; rfl, HB.out⟩
              · have hii : i = S.size := by omega
                have hiI : ¬ (i : Int) < (S.size : Int) := by omega
                obtain ⟨t1, t2⟩ := tok_end hc hcb hsig hi0 (by rw [HL.out]; omega) HNB.out (Or.inl (by rw [HL.out]; exact hii)) HD.out
                clear hii
                by_cases hz1 : i = k + 1
                · have HQ := Lib.hid (HZ.out.trans (fin_no (6 - ns.length) ns hc hcb (Or.inr (by rw [t1, if_pos (Or.inl hz1)]))))
                  have q1 : ((i : Int) == ((k : Int) + 1 : Int)) = true := by rw [beq_iff_eq]; omega
                  clear t1 t2 hz1
                  go_wp2_with fail
                  go_ret
                  exact ⟨by rw [HQ.out]; rfl, HB.out⟩
                · have q1 : ((i : Int) == ((k : Int) + 1 : Int)) = false := by rw [beq_eq_false_iff_ne]; omega
                  by_cases hz2 : 7 < i - k
                  · have HQ := Lib.hid (HZ.out.trans (fin_no (6 - ns.length) ns hc hcb (Or.inr (by rw [t1, if_pos (Or.inr hz2)]))))
                    have q2 : (7 : Int) < (i : Int) - (k : Int) := by omega
                    clear t1 t2 hz1 hz2
                    go_wp2_with fail
                    go_ret
                    exact ⟨by rw [HQ.out]; rfl, HB.out⟩
                  · have q2 : ¬ (7 : Int) < (i : Int) - (k : Int) := by omega
                    rw [if_neg (by omega)] at t1
                    have t1 : wholeZ ((L.drop k).takeWhile nbB) = some ((n : Int)) := t1
                    have hown := HO.out
                    have hbel := HB.out
                    have hsz : B ≤ wx.heap.size := by have := hbel.size; have := HB0.out; omega
                    have w7 : IntKind.i64.wrap (-(n : Int)) = -(n : Int) := by rw [IntKind.wrap_i64]; omega
                    skip
                    go_wp2_with (at_builtin; refine wpList_append_own _ rfl _ _ 49 rfl B 3 i0 (.int .i64 0) 1 8 Tryd.underlying49 hin hz0 hzz1 hzz2 rfl (by decide) _ _ _ rfl (hown.alloc _) ⟨wx.heap.size, 0, none⟩ 1 1 [.int .i64 ((n : Int))] rfl rfl (cell_one_new _ _ _) ?c2 ?c3 ?c4 ?c5 ?_)
                    case c2 => simp [Value.oneCell']
                    case c3 => unfold maxLen; omega
                    case c4 => omega
                    case c5 => first | omega | (simp; omega)
                    intro v' w5 hown' hgrow hnil
                    have hB1 : Below B w w5 := (hbel.alloc hsz _).grown hgrow (by simp; omega) (fun z e => (hown.lt z e).1)
                    have hlen : (ns ++ [((n : Int))]).length = ns.length + 1 := by simp
                    have ho2 : w5.ownsRow B 3 1 v' (ns ++ [((n : Int))]).length ((ns ++ [((n : Int))]).map (Value.int .i64)) := by
                      rw [hlen, List.map_append]
                      exact hown'
                    obtain ⟨A5, c5, hv5⟩ := cal_row_form ho2
                    rw [hlen] at hv5
                    subst hv5
                    by_cases h6 : ns.length = 6
                    · have HQ := Lib.hid (HZ.out.trans (fin_no (6 - ns.length) ns hc hcb (Or.inl (by omega))))
                      have q6 : (6 : Int) < ((ns.length + 1 : Nat) : Int) := by omega
                      have HB := Lib.hid hB1
                      clear t1 t2 hown hbel hown' hgrow hnil hB1 hlen ho2
                      go_wp2_with fail
                      go_ret
                      exact ⟨by rw [HQ.out]; rfl, HB.out⟩
                    · have q6 : ¬ (6 : Int) < ((ns.length + 1 : Nat) : Int) := by omega
                      have HQ := Lib.hid (show Z = finZ (parseN (6 - (ns ++ [((n : Int))]).length) (ns ++ [((n : Int))]) (L.drop i)) from by
                        rw [hlen, HZ.out, show 6 - ns.length = (6 - (ns.length + 1)) + 1 by omega, fin_yes (v := (n : Int)) _ ns hc hcb t1 t2])
                      have HB := Lib.hid hB1
                      have HO := Lib.hid ho2
                      have h6' : (ns ++ [((n : Int))]).length ≤ 6 := by omega
                      clear t1 t2 hown hbel hown' hgrow hnil hB1 ho2
                      go_wp2_with fail
                      go_roundw
                      case rel => exact ⟨i, ns ++ [((n : Int))], by omega, h6', by go_num, ⟨A5, c5, by rw [hlen], Lib.hid (by have := HO.out; rw [hlen] at this ⊢; exact this)⟩, HQ, HB⟩
                      case measure => simp [RowKit.intOf]; omega
          · have e43 : ((z : Int) == 43) = false := by rw [beq_eq_false_iff_ne]; omega
            have hc45 := Lib.hid (show c ≠ 45 from fun e => h45 ((hzc 45).2 e))
            have hc43 := Lib.hid (show c ≠ 43 from fun e => h43 ((hzc 43).2 e))
            clear hzc h45 h43 hcS hz
            go_wp2_with fail
            refine (CBk.out _).mono ?_
            rintro e w' ⟨rfl, rfl⟩
            go_wp2_with fail
            have hsig : Sig c false 0 := ⟨Or.inr (Or.inr ⟨hc45.out, hc43.out, rfl, rfl⟩)⟩
            have f1 : IntKind.i64.wrap ((k : Int) + 1) = (k : Int) + 1 := by rw [IntKind.wrap_i64]; omega
            go_quiet (fail)
            go_wp2_with fail
            obtain ⟨wx, hwx⟩ : ∃ wx, wr.drewN nq = wx := ⟨_, rfl⟩
            have hbx : Below B w wx := by rw [← hwx]; exact HB.out.trans (below_draws _ _ _)
            have hox : wx.ownsRow B 3 1 (.slice A0 ns.length c0) ns.length (ns.map (Value.int .i64)) := by rw [← hwx]; exact HO.out
            rw [hwx]
            have HB := Lib.hid hbx
            have HO := Lib.hid hox
            clear hwx hbx hox
            go_loop [4, 6] (fun iv nv => ∃ i n : Nat, k + 0 ≤ i ∧ i ≤ S.size ∧ i ≤ k + 8 ∧ n < 10 ^ (i - (k + 0)) ∧ iv = .int .i64 (i : Int) ∧ nv = .int .i64 (n : Int) ∧ Hid (Lib.decFrom 0 ((L.drop (k + 0)).take (i - (k + 0))) = some n) ∧ Hid (∀ j b, k ≤ j → j < i → L[j]? = some b → blkB b = false)) (fun iv _ => S.size - (RowKit.intOf iv).toNat)
            case atStart => exact ⟨k + 0, 0, by omega, by omega, by omega, by simp, by first | rfl | go_num | simp, rfl, Lib.hid (by simp [Lib.decFrom]), Lib.hid (fun j b hj hj2 hb => by omega)⟩
            case round =>
              obtain ⟨i, n, hi0, hi1, hi8, hn, rfl, rfl, HD, HNB⟩ := hrel
              have hpw : 10 ^ (i - (k + 0)) ≤ 100000000 := Nat.pow_le_pow_right (n := 10) (by omega) (show i - (k + 0) ≤ 8 by omega)
              have g1 : IntKind.i64.wrap ((i : Int) - (k : Int)) = (i : Int) - (k : Int) := by rw [IntKind.wrap_i64]; omega
              by_cases hiS : i < S.size
              · obtain ⟨b, hb⟩ : ∃ b, S[i]'hiS = b := ⟨_, rfl⟩
                obtain ⟨y, hy⟩ : ∃ y : Nat, b.toNat = y := ⟨_, rfl⟩
                have hbL : L[i]? = some b := by rw [← hb]; exact HG.out i hiS
                have hyy : (((S[i]'hiS).toNat : Nat) : Int) = (y : Int) := by rw [hb, hy]
                have hiI : (i : Int) < (S.size : Int) := by omega
                have i00 : (0 : Int) ≤ (i : Int) := by omega
                have CBi := fun (W : World) => CB.out b W
                rw [hy] at CBi
                have hy9 : y < 256 := by rw [← hy]; exact b.toNat_lt
                have Hy := Lib.hid hy
                clear hy hb
                cases hbb : blkB b with
                | true =>
                  rw [hbb] at CBi
                  have CBi := Lib.hid CBi
                  obtain ⟨t1, t2⟩ := tok_end hc hcb hsig hi0 (by rw [HL.out]; omega) HNB.out (Or.inr ⟨b, hbL, hbb⟩) HD.out
                  by_cases hz1 : i = k + 0
                  · have HQ := Lib.hid (HZ.out.trans (fin_no (6 - ns.length) ns hc hcb (Or.inr (by rw [t1, if_pos (Or.inl hz1)]))))
                    have q1 : ((i : Int) == ((k : Int) : Int)) = true := by rw [beq_iff_eq]; omega
                    clear t1 t2 hz1
                    go_wp2_with fail
                    refine (CBi.out _).mono ?_
                    rintro e w' ⟨rfl, rfl⟩
                    go_wp2_with fail
                    go_ret
                    exact ⟨by rw [HQ.out]; rfl, HB.out⟩
                  · have q1 : ((i : Int) == ((k : Int) : Int)) = false := by rw [beq_eq_false_iff_ne]; omega
                    by_cases hz2 : 7 < i - k
                    · have HQ := Lib.hid (HZ.out.trans (fin_no (6 - ns.length) ns hc hcb (Or.inr (by rw [t1, if_pos (Or.inr hz2)]))))
                      have q2 : (7 : Int) < (i : Int) - (k : Int) := by omega
                      clear t1 t2 hz1 hz2
                      go_wp2_with fail
                      refine (CBi.out _).mono ?_
                      rintro e w' ⟨rfl, rfl⟩
                      go_wp2_with fail
                      go_ret
                      exact ⟨by rw [HQ.out]; rfl, HB.out⟩
                    · have q2 : ¬ (7 : Int) < (i : Int) - (k : Int) := by omega
                      rw [if_neg (by omega)] at t1
                      have t1 : wholeZ ((L.drop k).takeWhile nbB) = some ((n : Int)) := t1
                      have hown := HO.out
                      have hbel := HB.out
                      have hsz : B ≤ wx.heap.size := by have := hbel.size; have := HB0.out; omega
                      have w7 : IntKind.i64.wrap (-(n : Int)) = -(n : Int) := by rw [IntKind.wrap_i64]; omega
                      skip
                      go_wp2_with fail
                      refine (CBi.out _).mono ?_
                      rintro e w' ⟨rfl, rfl⟩
                      go_wp2_with (at_builtin; refine wpList_append_own _ rfl _ _ 49 rfl B 3 i0 (.int .i64 0) 1 8 Tryd.underlying49 hin hz0 hzz1 hzz2 rfl (by decide) _ _ _ rfl (hown.alloc _) ⟨wx.heap.size, 0, none⟩ 1 1 [.int .i64 ((n : Int))] rfl rfl (cell_one_new _ _ _) ?c2 ?c3 ?c4 ?c5 ?_)
                      case c2 => simp [Value.oneCell']
                      case c3 => unfold maxLen; omega
                      case c4 => omega
                      case c5 => first | omega | (simp; omega)
                      intro v' w5 hown' hgrow hnil
                      have hB1 : Below B w w5 := (hbel.alloc hsz _).grown hgrow (by simp; omega) (fun z e => (hown.lt z e).1)
                      have hlen : (ns ++ [((n : Int))]).length = ns.length + 1 := by simp
                      have ho2 : w5.ownsRow B 3 1 v' (ns ++ [((n : Int))]).length ((ns ++ [((n : Int))]).map (Value.int .i64)) := by
                        rw [hlen, List.map_append]
                        exact hown'
                      obtain ⟨A5, c5, hv5⟩ := cal_row_form ho2
                      rw [hlen] at hv5
                      subst hv5
                      by_cases h6 : ns.length = 6
                      · have HQ := Lib.hid (HZ.out.trans (fin_no (6 - ns.length) ns hc hcb (Or.inl (by omega))))
                        have q6 : (6 : Int) < ((ns.length + 1 : Nat) : Int) := by omega
                        have HB := Lib.hid hB1
                        clear t1 t2 hown hbel hown' hgrow hnil hB1 hlen ho2
                        go_wp2_with fail
                        go_ret
                        exact ⟨by rw [HQ.out]; rfl, HB.out⟩
                      · have q6 : ¬ (6 : Int) < ((ns.length + 1 : Nat) : Int) := by omega
                        have HQ := Lib.hid (show Z = finZ (parseN (6 - (ns ++ [((n : Int))]).length) (ns ++ [((n : Int))]) (L.drop i)) from by
                          rw [hlen, HZ.out, show 6 - ns.length = (6 - (ns.length + 1)) + 1 by omega, fin_yes (v := (n : Int)) _ ns hc hcb t1 t2])
                        have HB := Lib.hid hB1
                        have HO := Lib.hid ho2
                        have h6' : (ns ++ [((n : Int))]).length ≤ 6 := by omega
                        clear t1 t2 hown hbel hown' hgrow hnil hB1 ho2
                        go_wp2_with fail
                        go_roundw
                        case rel => exact ⟨i, ns ++ [((n : Int))], by omega, h6', by go_num, ⟨A5, c5, by rw [hlen], Lib.hid (by have := HO.out; rw [hlen] at this ⊢; exact this)⟩, HQ, HB⟩
                        case measure => simp [RowKit.intOf]; omega
                | false =>
                  rw [hbb] at CBi
                  have CBi := Lib.hid CBi
                  have hN2 : ∀ j b, k ≤ j → j ≤ i → L[j]? = some b → blkB b = false := fun j b' hj hj2 hb' => by
                    rcases Nat.lt_or_ge j i with h | h
                    · exact HNB.out j b' hj h hb'
                    · obtain rfl : j = i := by omega
                      rw [hbL] at hb'; injection hb' with hb'; rw [← hb']; exact hbb
                  by_cases hdg : 48 ≤ y ∧ y ≤ 57
                  · have y1 : ¬ (y : Int) < 48 := by omega
                    have y2 : ¬ (57 : Int) < (y : Int) := by omega
                    by_cases h7 : 7 < i - k
                    · have HQ := Lib.hid (HZ.out.trans (fin_no (6 - ns.length) ns hc hcb (Or.inr (tok_bad2 (by omega) hN2 hbL h7))))
                      have q2 : (7 : Int) < (i : Int) - (k : Int) := by omega
                      clear hN2 h7 hdg
                      go_wp2_with fail
                      refine (CBi.out _).mono ?_
                      rintro e w' ⟨rfl, rfl⟩
                      go_wp2_with fail
                      go_ret
                      exact ⟨by rw [HQ.out]; rfl, HB.out⟩
                    · have q2 : ¬ (7 : Int) < (i : Int) - (k : Int) := by omega
                      have hdv : Lib.digitVal b = some (y - 48) := by unfold Lib.digitVal; rw [Hy.out, if_pos hdg]
                      have hst := Lib.decFrom_take (L.drop (k + 0)) (i - (k + 0)) 0 n b (y - 48) HD.out (by rw [List.getElem?_drop, show k + 0 + (i - (k + 0)) = i by omega]; exact hbL) hdv
                      rw [show i - (k + 0) + 1 = i + 1 - (k + 0) by omega] at hst
                      have hn2 : n * 10 + (y - 48) < 10 ^ (i + 1 - (k + 0)) := by
                        rw [show i + 1 - (k + 0) = (i - (k + 0)) + 1 by omega, Nat.pow_succ]; omega
                      have HD2 := Lib.hid hst
                      have HN2 := Lib.hid (fun j b (hj : k ≤ j) (hj2 : j < i + 1) hb => hN2 j b hj (by omega) hb)
                      have m1 : IntKind.i64.wrap (10 * (n : Int)) = 10 * (n : Int) := by rw [IntKind.wrap_i64]; omega
                      have m2 : IntKind.u8.wrap ((y : Int) - 48) = ((y - 48 : Nat) : Int) := by rw [IntKind.wrap_u8]; omega
                      obtain ⟨dd, hdd⟩ : ∃ dd, y - 48 = dd := ⟨_, rfl⟩
                      rw [hdd] at m2 hn2 HD2
                      have m3 : IntKind.i64.wrap (dd : Int) = (dd : Int) := by rw [IntKind.wrap_i64]; omega
                      have m4 : IntKind.i64.wrap (10 * (n : Int) + (dd : Int)) = ((n * 10 + dd : Nat) : Int) := by rw [IntKind.wrap_i64]; omega
                      have m5 : IntKind.i64.wrap ((i : Int) + 1) = (i : Int) + 1 := by rw [IntKind.wrap_i64]; omega
                      obtain ⟨n2, hnn⟩ : ∃ n2, n * 10 + dd = n2 := ⟨_, rfl⟩
                      rw [hnn] at m4 hn2 HD2
                      clear hN2 h7 hdg hst hdv hdd hnn
                      go_wp2_with fail
                      refine (CBi.out _).mono ?_
                      rintro e w' ⟨rfl, rfl⟩
                      go_wp2_with fail
                      go_round
                      case rel => exact ⟨i + 1, n2, by omega, by omega, by omega, hn2, by go_num, rfl, HD2, HN2⟩
                      case measure => simp [RowKit.intOf]; omega
                  · have HQ := Lib.hid (HZ.out.trans (fin_no (6 - ns.length) ns hc hcb (Or.inr (tok_bad1 hc hsig hi0 hN2 hbL (by unfold Lib.digitVal; rw [Hy.out, if_neg hdg])))))
                    by_cases hlow : y < 48
                    · have y1 : (y : Int) < 48 := by omega
                      clear hN2 hdg
                      go_wp2_with fail
                      refine (CBi.out _).mono ?_
                      rintro e w' ⟨rfl, rfl⟩
                      go_wp2_with fail
                      go_ret
                      exact ⟨by rw [HQ.out]; rfl, HB.out⟩
                    · have y1 : ¬ (y : Int) < 48 := by omega
                      have y2 : (57 : Int) < (y : Int) := by omega
                      clear hN2 hdg
                      go_wp2_with fail
                      refine (CBi.out _).mono ?_
                      rintro e w' ⟨rfl, rfl⟩
                      go_wp2_with fail
                      go_ret
                      exact ⟨by rw [HQ.out]; rfl, HB.out⟩
              · have hii : i = S.size := by omega
                have hiI : ¬ (i : Int) < (S.size : Int) := by omega
                obtain ⟨t1, t2⟩ := tok_end hc hcb hsig hi0 (by rw [HL.out]; omega) HNB.out (Or.inl (by rw [HL.out]; exact hii)) HD.out
                clear hii
                by_cases hz1 : i = k + 0
                · have HQ := Lib.hid (HZ.out.trans (fin_no (6 - ns.length) ns hc hcb (Or.inr (by rw [t1, if_pos (Or.inl hz1)]))))
                  have q1 : ((i : Int) == ((k : Int) : Int)) = true := by rw [beq_iff_eq]; omega
                  clear t1 t2 hz1
                  go_wp2_with fail
                  go_ret
                  exact ⟨by rw [HQ.out]; rfl, HB.out⟩
                · have q1 : ((i : Int) == ((k : Int) : Int)) = false := by rw [beq_eq_false_iff_ne]; omega
                  by_cases hz2 : 7 < i - k
                  · have HQ := Lib.hid (HZ.out.trans (fin_no (6 - ns.length) ns hc hcb (Or.inr (by rw [t1, if_pos (Or.inr hz2)]))))
                    have q2 : (7 : Int) < (i : Int) - (k : Int) := by omega
                    clear t1 t2 hz1 hz2
                    go_wp2_with fail
                    go_ret
                    exact ⟨by rw [HQ.out]; rfl, HB.out⟩
                  · have q2 : ¬ (7 : Int) < (i : Int) - (k : Int) := by omega
                    rw [if_neg (by omega)] at t1
                    have t1 : wholeZ ((L.drop k).takeWhile nbB) = some ((n : Int)) := t1
                    have hown := HO.out
                    have hbel := HB.out
                    have hsz : B ≤ wx.heap.size := by have := hbel.size; have := HB0.out; omega
                    have w7 : IntKind.i64.wrap (-(n : Int)) = -(n : Int) := by rw [IntKind.wrap_i64]; omega
                    skip
                    go_wp2_with (at_builtin; refine wpList_append_own _ rfl _ _ 49 rfl B 3 i0 (.int .i64 0) 1 8 Tryd.underlying49 hin hz0 hzz1 hzz2 rfl (by decide) _ _ _ rfl (hown.alloc _) ⟨wx.heap.size, 0, none⟩ 1 1 [.int .i64 ((n : Int))] rfl rfl (cell_one_new _ _ _) ?c2 ?c3 ?c4 ?c5 ?_)
                    case c2 => simp [Value.oneCell']
                    case c3 => unfold maxLen; omega
                    case c4 => omega
                    case c5 => first | omega | (simp; omega)
                    intro v' w5 hown' hgrow hnil
                    have hB1 : Below B w w5 := (hbel.alloc hsz _).grown hgrow (by simp; omega) (fun z e => (hown.lt z e).1)
                    have hlen : (ns ++ [((n : Int))]).length = ns.length + 1 := by simp
                    have ho2 : w5.ownsRow B 3 1 v' (ns ++ [((n : Int))]).length ((ns ++ [((n : Int))]).map (Value.int .i64)) := by
                      rw [hlen, List.map_append]
                      exact hown'
                    obtain ⟨A5, c5, hv5⟩ := cal_row_form ho2
                    rw [hlen] at hv5
                    subst hv5
                    by_cases h6 : ns.length = 6
                    · have HQ := Lib.hid (HZ.out.trans (fin_no (6 - ns.length) ns hc hcb (Or.inl (by omega))))
                      have q6 : (6 : Int) < ((ns.length + 1 : Nat) : Int) := by omega
                      have HB := Lib.hid hB1
                      clear t1 t2 hown hbel hown' hgrow hnil hB1 hlen ho2
                      go_wp2_with fail
                      go_ret
                      exact ⟨by rw [HQ.out]; rfl, HB.out⟩
                    · have q6 : ¬ (6 : Int) < ((ns.length + 1 : Nat) : Int) := by omega
                      have HQ := Lib.hid (show Z = finZ (parseN (6 - (ns ++ [((n : Int))]).length) (ns ++ [((n : Int))]) (L.drop i)) from by
                        rw [hlen, HZ.out, show 6 - ns.length = (6 - (ns.length + 1)) + 1 by omega, fin_yes (v := (n : Int)) _ ns hc hcb t1 t2])
                      have HB := Lib.hid hB1
                      have HO := Lib.hid ho2
                      have h6' : (ns ++ [((n : Int))]).length ≤ 6 := by omega
                      clear t1 t2 hown hbel hown' hgrow hnil hB1 ho2
                      go_wp2_with fail
                      go_roundw
                      case rel => exact ⟨i, ns ++ [((n : Int))], by omega, h6', by go_num, ⟨A5, c5, by rw [hlen], Lib.hid (by have := HO.out; rw [hlen] at this ⊢; exact this)⟩, HQ, HB⟩
                      case measure => simp [RowKit.intOf]; omega
    · have hkk : k = S.size := by omega
      have hd : L.drop k = [] := List.drop_eq_nil_of_le (by rw [HL.out]; omega)
      have hkI : ¬ (k : Int) < (S.size : Int) := by omega
      have hz := HZ.out
      rw [hd] at hz
      by_cases h6 : ns.length = 6
      · have q6 : ((ns.length : Int) != 6) = false := by rw [h6]; rfl
        obtain ⟨r, hr, _, hcell⟩ := cal_row_cell HO.out (by omega)
        rw [h6] at hz hcell
        rcases ns with _ | ⟨a1, _ | ⟨a2, _ | ⟨a3, _ | ⟨a4, _ | ⟨a5, _ | ⟨a6, _ | ⟨a7, t⟩⟩⟩⟩⟩⟩⟩
        all_goals first | (simp at h6; done) | skip
        have hz' : Z = (if (atR a1 a2 a3 a4 a5 a6).2 = 0 then (atR a1 a2 a3 a4 a5 a6).1 else -1) := hz.trans (show finZ (some ([a1, a2, a3, a4, a5, a6], [])) = _ from by simp only [finZ]; exact if_pos rfl)
        subst hr
        have c0' : wr.cell? ⟨r, 0, none⟩ = some (.int .i64 a1) := hcell 0 (by omega)
        have c1' : wr.cell? ⟨r, 1, none⟩ = some (.int .i64 a2) := hcell 1 (by omega)
        have c2' : wr.cell? ⟨r, 2, none⟩ = some (.int .i64 a3) := hcell 2 (by omega)
        have c3' : wr.cell? ⟨r, 3, none⟩ = some (.int .i64 a4) := hcell 3 (by omega)
        have c4' : wr.cell? ⟨r, 4, none⟩ = some (.int .i64 a5) := hcell 4 (by omega)
        have c5' : wr.cell? ⟨r, 5, none⟩ = some (.int .i64 a6) := hcell 5 (by omega)
        have CA := fun (W : World) => rAt_any a1 a2 a3 a4 a5 a6 0 0 W
        unfold dateV at CA
        have hrl : r < wr.heap.size := World.block_lt_of_cell? wr _ c0'
        obtain ⟨tv, htv⟩ : ∃ tv, atR a1 a2 a3 a4 a5 a6 = tv := ⟨_, rfl⟩
        rw [htv] at CA hz'
        obtain ⟨v1, v2⟩ := tv
        have CA := Lib.hid CA
        have HRL := Lib.hid hrl
        have HC := Lib.hid (show wr.cell? ⟨r, 0, none⟩ = some (.int .i64 a1) ∧ wr.cell? ⟨r, 1, none⟩ = some (.int .i64 a2) ∧ wr.cell? ⟨r, 2, none⟩ = some (.int .i64 a3) ∧ wr.cell? ⟨r, 3, none⟩ = some (.int .i64 a4) ∧ wr.cell? ⟨r, 4, none⟩ = some (.int .i64 a5) ∧ wr.cell? ⟨r, 5, none⟩ = some (.int .i64 a6) from ⟨c0', c1', c2', c3', c4', c5'⟩)
        have HW : ∀ W3, Below wr.heap.size wr W3 → (W3.cell? ⟨r, 0, none⟩ = some (.int .i64 a1) ∧ W3.cell? ⟨r, 1, none⟩ = some (.int .i64 a2) ∧ W3.cell? ⟨r, 2, none⟩ = some (.int .i64 a3) ∧ W3.cell? ⟨r, 3, none⟩ = some (.int .i64 a4) ∧ W3.cell? ⟨r, 4, none⟩ = some (.int .i64 a5) ∧ W3.cell? ⟨r, 5, none⟩ = some (.int .i64 a6)) := fun W3 h3 => by
          have key : ∀ j, W3.cell? ⟨r, j, none⟩ = wr.cell? ⟨r, j, none⟩ := fun j => World.cell?_of_block (w := wr) (h3.block r HRL.out)
          rw [key, key, key, key, key, key]
          exact HC.out
        have HW := Lib.hid HW
        have hBs : B ≤ wr.heap.size := by have := HB.out.size; have := HB0.out; omega
        have HBs := Lib.hid hBs
        clear hz hd hcell htv hrl hBs q6
        have q6 : (([a1, a2, a3, a4, a5, a6] : List Int).length : Int) = 6 := rfl
        by_cases h0 : v2 = 0
        · have HQ := Lib.hid (hz'.trans (if_pos h0))
          have t0 : (v2 != 0) = false := by rw [h0]; rfl
          clear hz' h0
          go_wp2_with fail
          go_region_held3 (fun w' => w'.cell? ⟨r, 0, none⟩ = some (.int .i64 a1) ∧ w'.cell? ⟨r, 1, none⟩ = some (.int .i64 a2) ∧ w'.cell? ⟨r, 2, none⟩ = some (.int .i64 a3) ∧ w'.cell? ⟨r, 3, none⟩ = some (.int .i64 a4) ∧ w'.cell? ⟨r, 4, none⟩ = some (.int .i64 a5) ∧ w'.cell? ⟨r, 5, none⟩ = some (.int .i64 a6))
            (first | (with_reducible exact S1) | go_keep)
            (first
            | (go_at_call 19; (with_reducible refine (CA.out wr.drew).mono ?_); rintro e W3 ⟨rfl, h3⟩; have b3 : Below wr.heap.size wr W3 := first_bel (Below.drew (Below.refl _ _)) h3; have S1 := HW.out W3 b3; clear h3))
          all_goals
            have HB3 := Lib.hid (HB.out.trans (b3.mono HBs.out))
            clear b3 S1
            go_wp2_with fail
            go_ret
            exact ⟨by rw [HQ.out]; rfl, HB3.out⟩
        · have HQ := Lib.hid (hz'.trans (if_neg h0))
          have t0 : (v2 != 0) = true := by simp only [bne_iff_ne, ne_eq]; exact h0
          clear hz' h0
          go_wp2_with fail
          go_region_held3 (fun w' => w'.cell? ⟨r, 0, none⟩ = some (.int .i64 a1) ∧ w'.cell? ⟨r, 1, none⟩ = some (.int .i64 a2) ∧ w'.cell? ⟨r, 2, none⟩ = some (.int .i64 a3) ∧ w'.cell? ⟨r, 3, none⟩ = some (.int .i64 a4) ∧ w'.cell? ⟨r, 4, none⟩ = some (.int .i64 a5) ∧ w'.cell? ⟨r, 5, none⟩ = some (.int .i64 a6))
            (first | (with_reducible exact S1) | go_keep)
            (first
            | (go_at_call 19; (with_reducible refine (CA.out wr.drew).mono ?_); rintro e W3 ⟨rfl, h3⟩; have b3 : Below wr.heap.size wr W3 := first_bel (Below.drew (Below.refl _ _)) h3; have S1 := HW.out W3 b3; clear h3))
          all_goals
            have HB3 := Lib.hid (HB.out.trans (b3.mono HBs.out))
            clear b3 S1
            go_wp2_with fail
            go_ret
            exact ⟨by rw [HQ.out]; rfl, HB3.out⟩
      · obtain ⟨m, hm⟩ : ∃ m, 6 - ns.length = m + 1 := ⟨5 - ns.length, by omega⟩
        rw [hm, fin_end] at hz
        have HQ := Lib.hid hz
        have q6 : ((ns.length : Int) != 6) = true := by simp only [bne_iff_ne, ne_eq]; omega
        clear hz hm hd
        go_wp2_with fail
        go_ret
        exact ⟨by rw [HQ.out]; rfl, HB.out⟩
end Go.Proofs.YtelhbkfhalpniaaDoor
