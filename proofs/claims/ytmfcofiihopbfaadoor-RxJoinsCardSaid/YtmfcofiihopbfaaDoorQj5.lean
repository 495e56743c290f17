/- Several texts in one (Contracts of layer 9: weights, and when two trees are the same; Contracts of layer 9: the whole of a pattern; Contracts of layer 9: Parse; Contracts of layer 9: when two trees are the same; Plain: an interval behind a letter (layer 9), and the examples; Contracts of layer 9's laws: trees that a law writes; the document's example; Plain: a choice has two kids at least; what a law makes of two choices; The kids that a law gathers, in memory). -/
import Derived.Test.YtmfcofiihopbfaaDoorQj2
import Derived.Test.YtmfcofiihopbfaaDoorQj3
import Derived.Test.YtmfcofiihopbfaaDoorQj4
namespace Go.Proofs.YtmfcofiihopbfaaDoor
open Go.RowKit Go.Lib

theorem TrV.at {w : World} {P : Nat → Prop} {l : List Tr} {A : Option Addr} (h : Tr.Ins w P l A 0) (j : Nat) (t : Tr) (hj : l[j]? = some t) : ∃ (g : Nat) (kind code : Int) (neg : Bool) (A3 : Option Addr) (n3 c3 : Nat) (lo hi : Int) (A2 : Option Addr) (n2 c2 : Nat), A = some ⟨g, 0, none⟩ ∧
    (w.cell? ⟨g, j * 7, none⟩ = some (.int .i64 kind) ∧ w.cell? ⟨g, j * 7 + 1, none⟩ = some (.int .i64 code) ∧ w.cell? ⟨g, j * 7 + 2, none⟩ = some (.bool neg) ∧ w.cell? ⟨g, j * 7 + 3, none⟩ = some (.slice A3 n3 c3) ∧ w.cell? ⟨g, j * 7 + 4, none⟩ = some (.int .i64 lo) ∧ w.cell? ⟨g, j * 7 + 5, none⟩ = some (.int .i64 hi) ∧ w.cell? ⟨g, j * 7 + 6, none⟩ = some (.slice A2 n2 c2)) ∧
    TrV w P t #[.int .i64 kind, .int .i64 code, .bool neg, .slice A3 n3 c3, .int .i64 lo, .int .i64 hi, .slice A2 n2 c2] := by
  obtain ⟨g, rfl, hp, ht⟩ := h.at j t hj
  simp only [Nat.zero_add] at ht
  obtain ⟨kind, code, neg, set, lo, hi, kids⟩ := t
  rw [Tr.In] at ht
  obtain ⟨sv, A2, c2, t0, t1, t2, t3, t4, t5, t6, hn, hR, hJ⟩ := ht
  obtain ⟨A3, c3, rfl⟩ := rx_store_set hR
  exact ⟨g, kind, code, neg, A3, _, c3, lo, hi, A2, _, c2, rfl, ⟨t0, t1, t2, t3, t4, t5, t6⟩, TrV.mk hn hR hJ⟩
set_option maxRecDepth 100000 in
set_option maxHeartbeats 4000000 in
/-- Weight, of trees no greater than so. -/
theorem rx_weight_n : ∀ (N : Nat) (t : Tr) (P : Nat → Prop) (vs : Array Value) (W : World), SizeOf.sizeOf t ≤ N → TrV W P t vs → Calls Tryd.prog 10 #[.agg vs] W fun e w' => e = .returned (.int .i64 t.wt) ∧ Below W.heap.size W w'
  | 0, t, _, _, _, h, _ => by cases t; simp at h
  | N + 1, .mk kind code neg set lo hi kids, P, vs, W, hN, h => by
    obtain ⟨sv, A, cap, rfl, hkl, hR, hI⟩ := h.open
    obtain ⟨A3, c3, rfl⟩ := rx_store_set hR
    have hb0 := (Below.refl W.heap.size W).alloc (Nat.le_refl _) (.cells #[.int .i64 kind, .int .i64 code, .bool neg, .slice A3 set.length c3, .int .i64 lo, .int .i64 hi, .slice A kids.length cap] 30)
    have F0 := Blk.new W #[.int .i64 kind, .int .i64 code, .bool neg, .slice A3 set.length c3, .int .i64 lo, .int .i64 hi, .slice A kids.length cap] 30
    have IH := Lib.hid (fun (t : Tr) (ht : t ∈ kids) (vs : Array Value) (w : World) (hv : TrV w (fun g => g < W.heap.size ∧ P g) t vs) => rx_weight_n N t _ vs w (by have := size_kid (kind := kind) (code := code) (neg := neg) (set := set) (lo := lo) (hi := hi) ht; omega) hv)
    have HKI := Lib.hid (fun (w : World) (hb : Below W.heap.size W w) => Tr.Ins.keep (w' := w) (P' := fun g => g < W.heap.size ∧ P g) (fun g hg hp => ⟨⟨hg, hp⟩, hb.block g hg⟩) kids A 0 hI)
    obtain ⟨W0, hW0⟩ : ∃ W0, W.alloc (.cells #[.int .i64 kind, .int .i64 code, .bool neg, .slice A3 set.length c3, .int .i64 lo, .int .i64 hi, .slice A kids.length cap] 30) = W0 := ⟨_, rfl⟩
    rw [hW0] at hb0 F0
    have HF := Lib.hid F0
    have HB0 := Lib.hid hb0
    have hs0 := hb0.size
    obtain ⟨⟨c0, c1, c2, c3', c4, c5, c6⟩, _⟩ := F0.seven
    rw [Tr.wt]
    have hwb := wts_in kids 0 (Int.le_refl _) (by omega)
    obtain ⟨S, hS⟩ : ∃ S, Tr.wts 0 kids = S := ⟨_, rfl⟩
    rw [hS] at hwb ⊢
    have HS := Lib.hid hS
    obtain ⟨V, hV⟩ : ∃ V, (if kind = 5 then S else if kind = 7 then min (S * min (if hi < 0 then min (max 0 lo) 1048576 + 1 else hi) 1048576 + 1) 1048576 else min (S + 1) 1048576) = V := ⟨_, rfl⟩
    rw [hV]
    have HV := Lib.hid hV
    obtain ⟨ml, hml⟩ : ∃ ml, kids.length = ml := ⟨_, rfl⟩
    rw [hml] at c6 hkl
    have HML := Lib.hid hml
    clear h hR hI hb0 F0 hS hN hml hV
    go_enter Tryd.func10, Tryd.ntmps10
    go_wp2_with fail
    clear hW0
    go_loopw [3, 10] (fun sv kv wr => ∃ k : Nat, sv = .int .i64 (Tr.wts 0 (kids.take k)) ∧ kv = .int .i64 (k : Int) ∧ k ≤ ml ∧ Below W0.heap.size W0 wr) (fun _ kv _ => ml - (RowKit.intOf kv).toNat)
    case atStart => exact ⟨0, by simp [Tr.wts], rfl, Nat.zero_le _, Below.refl _ _⟩
    case round =>
      obtain ⟨k, rfl, rfl, hk, hB⟩ := hrel
      have HB := Lib.hid hB
      have hwk := wts_in (kids.take k) 0 (Int.le_refl _) (by omega)
      by_cases hlt : k < ml
      · have hkl2 : k < kids.length := by rw [HML.out]; exact hlt
        obtain ⟨t, ht⟩ : ∃ t, kids[k] = t := ⟨_, rfl⟩
        have hmem : t ∈ kids := by rw [← ht]; exact List.getElem_mem hkl2
        have hn : Tr.wts 0 (kids.take (k + 1)) = min (Tr.wts 0 (kids.take k) + t.wt) 1048576 := by
          rw [List.take_succ_eq_append_getElem hkl2, wts_snoc, ht]
        have HN := Lib.hid hn
        have hwt := wt_in t
        obtain ⟨g, kind1, code1, neg1, A31, n31, c31, lo1, hi1, A21, n21, c21, hA, ⟨u0, u1, u2, u3, u4, u5, u6⟩, hT⟩ := TrV.at (HKI.out wr (HB0.out.trans (hB.mono hs0))) k t (by rw [List.getElem?_eq_getElem hkl2, ht])
        subst hA
        have CW := Lib.hid (fun (w : World) (hb : Below wr.heap.size wr w) => IH.out t hmem _ w (hT.kept (fun g hg hp => ⟨hp, hb.block g hg⟩)))
        obtain ⟨a, ha⟩ : ∃ a, Tr.wts 0 (kids.take k) = a := ⟨_, rfl⟩
        obtain ⟨b, hb⟩ : ∃ b, t.wt = b := ⟨_, rfl⟩
        have CW := Lib.hid (fun (w : World) (hb2 : Below wr.heap.size wr w) => hb ▸ CW.out w hb2)
        rw [ha] at hwk
        rw [ha, hb] at HN
        rw [hb] at hwt
        have hw1 : IntKind.i64.wrap (a + b) = a + b := by simp [IntKind.wrap, IntKind.bits, IntKind.signed]; omega
        obtain ⟨k1, hk1⟩ : ∃ k1, k + 1 = k1 := ⟨_, rfl⟩
        have hw2 : IntKind.i64.wrap ((k : Int) + 1) = (k1 : Int) := by simp [IntKind.wrap, IntKind.bits, IntKind.signed]; omega
        rw [hk1] at HN
        rw [ha]
        clear hn ht hmem hT ha hb hkl2 hB
        go_wp2_with fail
        refine (CW.out _ ((Below.refl _ _).alloc (Nat.le_refl _) _)).mono ?_
        rintro e w2 ⟨rfl, hb2⟩
        have HB2 := Lib.hid (HB.out.trans ((((Below.refl wr.heap.size wr).alloc (Nat.le_refl _) (.cells #[.int .i64 kind1, .int .i64 code1, .bool neg1, .slice A31 n31 c31, .int .i64 lo1, .int .i64 hi1, .slice A21 n21 c21] 30)).trans (hb2.mono (by simp))).mono HB.out.size))
        clear hb2 CW
        go_wp2_with fail
        refine ⟨⟨k1, by rw [HN.out], rfl, by omega, HB2.out⟩, ?_⟩
        simp [RowKit.intOf]
        omega
      · have hkn : kids.take k = kids := List.take_of_length_le (by rw [HML.out]; omega)
        rw [hkn, HS.out] at hwk ⊢
        have FIN := Lib.hid (HB0.out.trans (hB.mono hs0))
        obtain ⟨⟨d0, d1, d2, d3, d4, d5, d6⟩, _⟩ := (HF.out.below hB HF.out.lt).seven
        clear hkn hB IH HKI
        by_cases k5 : kind = 5
        · have hv := Lib.hid (show V = S by rw [← HV.out, if_pos k5])
          subst k5
          go_wp2_with fail
          go_ret
          exact ⟨by rw [hv.out]; rfl, FIN.out⟩
        have b5 : (kind == 5) = false := by rw [beq_eq_false_iff_ne]; exact k5
        by_cases k7 : kind = 7
        · have hv1 := HV.out
          rw [if_neg k5, if_pos k7] at hv1
          subst k7
          obtain ⟨m, hm⟩ : ∃ m, min (if hi < 0 then min (max 0 lo) 1048576 + 1 else hi) 1048576 = m := ⟨_, rfl⟩
          have m0 : 0 ≤ m ∧ m ≤ 1048576 := by
            rw [← hm]
            split <;> omega
          have hp0 : 0 ≤ S * m := Int.mul_nonneg hwk.1 m0.1
          have hp1 : S * m ≤ 1048576 * 1048576 := Int.mul_le_mul hwk.2 m0.2 m0.1 (by omega)
          obtain ⟨pr, hpr⟩ : ∃ pr, S * m = pr := ⟨_, rfl⟩
          rw [hm, hpr] at hv1
          have hv := Lib.hid hv1.symm
          rw [hpr] at hp0 hp1
          clear hv1
          have hw1 : IntKind.i64.wrap pr = pr := by simp [IntKind.wrap, IntKind.bits, IntKind.signed]; omega
          have hw2 : IntKind.i64.wrap (pr + 1) = pr + 1 := by simp [IntKind.wrap, IntKind.bits, IntKind.signed]; omega
          by_cases hh : hi < 0
          · rw [if_pos hh] at hm
            have hw0 : IntKind.i64.wrap (min (max 0 lo) 1048576 + 1) = min (max 0 lo) 1048576 + 1 := by simp [IntKind.wrap, IntKind.bits, IntKind.signed]; omega
            clear k5
            go_wp2_with fail
            go_ret
            exact ⟨by rw [hv.out]; rfl, FIN.out⟩
          · rw [if_neg hh] at hm
            clear k5
            go_wp2_with fail
            go_ret
            exact ⟨by rw [hv.out]; rfl, FIN.out⟩
        · have hv := Lib.hid (show V = min (S + 1) 1048576 by rw [← HV.out, if_neg k5, if_neg k7])
          have b7 : (kind == 7) = false := by rw [beq_eq_false_iff_ne]; exact k7
          have hw2 : IntKind.i64.wrap (S + 1) = S + 1 := by simp [IntKind.wrap, IntKind.bits, IntKind.signed]; omega
          clear k5 k7
          go_wp2_with fail
          go_ret
          exact ⟨by rw [hv.out]; rfl, FIN.out⟩
theorem rx_weight {W : World} {P : Nat → Prop} {t : Tr} {vs : Array Value} (h : TrV W P t vs) : Calls Tryd.prog 10 #[.agg vs] W fun e w' => e = .returned (.int .i64 t.wt) ∧ Below W.heap.size W w' := rx_weight_n _ t P vs W (Nat.le_refl _) h
end Go.Proofs.YtmfcofiihopbfaaDoor

namespace Go.Proofs.YtmfcofiihopbfaaDoor
open Go.RowKit Go.Lib

/-- What the whole of a pattern is. -/
def whF (s : ByteArray) (b : Bool) : Rs Tr := match chD s b 40 0 with
  | .bad k e => .bad k e
  | .ok t k => if k = s.size then if 200 < t.wt then .bad 0 91 else .ok t k else .bad k 90
theorem parse_wh (s : ByteArray) (b : Bool) (h : s.size ≤ 1024) : rxParse s b = match whF s b with | .bad k e => (trZ, k, e) | .ok t _ => (t, 0, 0) := by
  rw [rxParse, if_neg (by omega), whF]
  cases chD s b 40 0 with
  | bad k e => rfl
  | ok t k =>
    dsimp only
    split
    · split <;> rfl
    · rfl
set_option maxRecDepth 100000 in
set_option maxHeartbeats 1500000 in
theorem rx_whole {W : World} {pb : Nat} {s : ByteArray} {b : Bool} (h : Prs W pb s b 0 0) (hs : s.size ≤ 1024) (hE : Env W pb) :
    Calls Tryd.prog 13 #[pbP pb] W (RxOut (gTr W.heap.size) pb s b 0 W (whF s b)) := by
  have hlt := Blk.lt h
  have F0 := Blk.new W zero7 30
  have S0 := (Stp.refl h).alloc (.cells zero7 30)
  have hE0 := hE.step S0 hlt
  have hsz0 : (W.alloc (.cells zero7 30)).heap.size = W.heap.size + 1 := by simp
  obtain ⟨W0, hW0⟩ : ∃ W0, W.alloc (.cells zero7 30) = W0 := ⟨_, rfl⟩
  rw [hW0] at F0 S0 hE0 hsz0
  have hlt0 : pb < W0.heap.size := by omega
  have hsA : W.heap.size < W0.heap.size := by omega
  have hneB : pb ≠ W.heap.size := by omega
  clear hsz0
  have CW := Lib.hid (fun a W => rx_wrong pb a W)
  have CB := Lib.hid (fun W => rx_big pb 0 W)
  have CC := rx_choice (rx_group s b 40) (Nat.zero_add 40) S0.prs (Nat.zero_le _) hs hE0
  have HS0 := Lib.hid S0
  have HKF := Lib.hid (fun (w : World) (j m : Nat) (hS : Stp pb s b j m W0 w) => show Blk w W.heap.size zero7 30 from ⟨(hS.off.block _ F0.lt (Ne.symm hneB) (Ne.symm hneB)).trans F0.row⟩)
  have CI := Lib.hid (fun (x : Tr) (k : Nat) (hh : chD s b 40 0 = .ok x k) => chD_in (Nat.zero_le _) hh)
  rw [whF]
  clear h hE hE0 S0 F0
  cases hQ : chD s b 40 0 with
  | bad ka er =>
    rw [hQ] at CC
    have CC := Lib.hid CC
    clear hQ CI
    go_enter Tryd.func13, Tryd.ntmps13
    go_wp2_with fail
    refine CC.out.mono ?_
    rintro e w2 ⟨rfl, hO⟩
    have HO := Lib.hid hO
    clear hO CC hW0
    go_wp2_with fail
    exact ⟨rfl, rfl, HS0.out.off.trans HO.out⟩
  | ok t k =>
    have hk := CI.out t k hQ
    rw [hQ] at CC
    have CC := Lib.hid CC
    obtain ⟨p, hp⟩ : ∃ p, ((k : Int) == (s.size : Int)) = p := ⟨_, rfl⟩
    have CE := Lib.hid (fun w (hS : Stp pb s b k 0 W0 w) => rx_ended hS.prs p hp)
    dsimp only
    clear hQ CI
    cases p with
    | false =>
      have hne : ¬ k = s.size := by rw [beq_eq_false_iff_ne] at hp; omega
      rw [if_neg hne]
      clear hne hp
      go_enter Tryd.func13, Tryd.ntmps13
      go_wp2_with fail
      refine CC.out.mono ?_
      rintro e w2 ⟨vv, rfl, ⟨vs, rfl, ht⟩, hS2⟩
      obtain ⟨kind, code, neg, A3, n3, c3, lo, hi', A2, n2, c2, rfl⟩ := ht.form
      have S2 := hS2.alloc (.cells #[.int .i64 kind, .int .i64 code, .bool neg, .slice A3 n3 c3, .int .i64 lo, .int .i64 hi', .slice A2 n2 c2] 30)
      have HS2 := Lib.hid S2
      clear hS2 S2 ht CC hW0
      go_wp2_with fail
      refine (CE.out _ HS2.out).mono ?_
      rintro e w3 ⟨rfl, hS⟩
      have S3 := HS2.out.trans hS
      have HS3 := Lib.hid S3
      obtain ⟨_, _, q2, _, _, _⟩ := S3.prs.four
      clear hS S3 CE
      go_wp2_with fail
      refine (CW.out _ _).mono ?_
      rintro e w4 ⟨rfl, rfl⟩
      go_wp2_with fail
      exact ⟨rfl, rfl, HS0.out.off.trans HS3.out.off⟩
    | true =>
      have he : k = s.size := by
        have := eq_of_beq hp
        omega
      rw [if_pos he]
      clear he hp
      have HWT := Lib.hid (fun (w : World) (vs : Array Value) (P : Nat → Prop) (h : TrV w P t vs) => rx_weight h)
      obtain ⟨wt, hwt⟩ : ∃ wt, t.wt = wt := ⟨_, rfl⟩
      have HWT := Lib.hid (fun (w : World) (vs : Array Value) (P : Nat → Prop) (h : TrV w P t vs) => hwt ▸ HWT.out w vs P h)
      rw [hwt]
      clear hwt
      by_cases hbig : 200 < wt
      · rw [if_pos hbig]
        go_enter Tryd.func13, Tryd.ntmps13
        go_wp2_with fail
        refine CC.out.mono ?_
        rintro e w2 ⟨vv, rfl, ⟨vs, rfl, ht⟩, hS2⟩
        obtain ⟨kind, code, neg, A3, n3, c3, lo, hi', A2, n2, c2, rfl⟩ := ht.form
        have hs2 := hS2.off.size
        have S2 := hS2.alloc (.cells #[.int .i64 kind, .int .i64 code, .bool neg, .slice A3 n3 c3, .int .i64 lo, .int .i64 hi', .slice A2 n2 c2] 30)
        have FT := Blk.new w2 #[.int .i64 kind, .int .i64 code, .bool neg, .slice A3 n3 c3, .int .i64 lo, .int .i64 hi', .slice A2 n2 c2] 30
        have hbT := (Below.refl w2.heap.size w2).alloc (Nat.le_refl _) (.cells #[.int .i64 kind, .int .i64 code, .bool neg, .slice A3 n3 c3, .int .i64 lo, .int .i64 hi', .slice A2 n2 c2] 30)
        have HS2 := Lib.hid S2
        have HT := Lib.hid (ht.kept (P' := fun c => W0.heap.size ≤ c ∧ c < w2.heap.size) (w' := w2.alloc (.cells #[.int .i64 kind, .int .i64 code, .bool neg, .slice A3 n3 c3, .int .i64 lo, .int .i64 hi', .slice A2 n2 c2] 30)) (fun g hg hp => ⟨⟨hp, hg⟩, hbT.block g hg⟩))
        have HFT := Lib.hid FT
        clear hS2 S2 ht CC hW0 FT hbT
        go_wp2_with fail
        refine (CE.out _ HS2.out).mono ?_
        rintro e w3 ⟨rfl, hS⟩
        have hS : Stp pb s b k 0 (w2.alloc (.cells #[.int .i64 kind, .int .i64 code, .bool neg, .slice A3 n3 c3, .int .i64 lo, .int .i64 hi', .slice A2 n2 c2] 30)) w3 := hS
        have S3 := HS2.out.trans hS
        have pbne : pb < w2.heap.size := by omega
        have FT3 : Blk w3 w2.heap.size #[.int .i64 kind, .int .i64 code, .bool neg, .slice A3 n3 c3, .int .i64 lo, .int .i64 hi', .slice A2 n2 c2] 30 := ⟨(hS.off.block _ HFT.out.lt (by omega) (by omega)).trans HFT.out.row⟩
        have HT3 := HT.out.kept (w' := w3) (P' := fun c => W0.heap.size ≤ c ∧ c < w3.heap.size) (fun g hg hp => ⟨⟨hp.1, Nat.lt_of_lt_of_le hg hS.off.size⟩, hS.off.block g hg (by omega) (by omega)⟩)
        have CWT := Lib.hid (HWT.out _ _ _ HT3)
        have HS3 := Lib.hid S3
        obtain ⟨⟨t0, t1, t2, t3, t4, t5, t6⟩, _⟩ := FT3.seven
        clear hS S3 FT3 HT3 HT HFT HWT CE pbne hs2
        go_wp2_with fail
        refine CWT.out.mono ?_
        rintro e w4 ⟨rfl, hb4⟩
        clear t0 t1 t2 t3 t4 t5 t6
        have HS4 := Lib.hid (HS3.out.below hb4)
        have hq : decide (200 < wt) = true := by
          rw [decide_eq_true_iff]
          exact hbig
        clear hb4
        go_wp2_with fail
        refine (CB.out _).mono ?_
        rintro e w5 ⟨rfl, rfl⟩
        go_wp2_with fail
        exact ⟨rfl, rfl, HS0.out.off.trans HS4.out.off⟩
      · rw [if_neg hbig]
        go_enter Tryd.func13, Tryd.ntmps13
        go_wp2_with fail
        refine CC.out.mono ?_
        rintro e w2 ⟨vv, rfl, ⟨vs, rfl, ht⟩, hS2⟩
        obtain ⟨kind, code, neg, A3, n3, c3, lo, hi', A2, n2, c2, rfl⟩ := ht.form
        have hs2 := hS2.off.size
        have S2 := hS2.alloc (.cells #[.int .i64 kind, .int .i64 code, .bool neg, .slice A3 n3 c3, .int .i64 lo, .int .i64 hi', .slice A2 n2 c2] 30)
        have FT := Blk.new w2 #[.int .i64 kind, .int .i64 code, .bool neg, .slice A3 n3 c3, .int .i64 lo, .int .i64 hi', .slice A2 n2 c2] 30
        have hbT := (Below.refl w2.heap.size w2).alloc (Nat.le_refl _) (.cells #[.int .i64 kind, .int .i64 code, .bool neg, .slice A3 n3 c3, .int .i64 lo, .int .i64 hi', .slice A2 n2 c2] 30)
        have HS2 := Lib.hid S2
        have HT := Lib.hid (ht.kept (P' := fun c => W0.heap.size ≤ c ∧ c < w2.heap.size) (w' := w2.alloc (.cells #[.int .i64 kind, .int .i64 code, .bool neg, .slice A3 n3 c3, .int .i64 lo, .int .i64 hi', .slice A2 n2 c2] 30)) (fun g hg hp => ⟨⟨hp, hg⟩, hbT.block g hg⟩))
        have HFT := Lib.hid FT
        clear hS2 S2 ht CC hW0 FT hbT
        go_wp2_with fail
        refine (CE.out _ HS2.out).mono ?_
        rintro e w3 ⟨rfl, hS⟩
        have hS : Stp pb s b k 0 (w2.alloc (.cells #[.int .i64 kind, .int .i64 code, .bool neg, .slice A3 n3 c3, .int .i64 lo, .int .i64 hi', .slice A2 n2 c2] 30)) w3 := hS
        have S3 := HS2.out.trans hS
        have pbne : pb < w2.heap.size := by omega
        have FT3 : Blk w3 w2.heap.size #[.int .i64 kind, .int .i64 code, .bool neg, .slice A3 n3 c3, .int .i64 lo, .int .i64 hi', .slice A2 n2 c2] 30 := ⟨(hS.off.block _ HFT.out.lt (by omega) (by omega)).trans HFT.out.row⟩
        have HT3 := HT.out.kept (w' := w3) (P' := fun c => W0.heap.size ≤ c ∧ c < w3.heap.size) (fun g hg hp => ⟨⟨hp.1, Nat.lt_of_lt_of_le hg hS.off.size⟩, hS.off.block g hg (by omega) (by omega)⟩)
        have CWT := Lib.hid (HWT.out _ _ _ HT3)
        have HS3 := Lib.hid S3
        have HT3h := Lib.hid HT3
        have HFT3 := Lib.hid FT3
        obtain ⟨⟨t0, t1, t2, t3, t4, t5, t6⟩, _⟩ := FT3.seven
        clear hS S3 FT3 HT3 HT HFT HWT CE pbne hs2
        go_wp2_with fail
        refine CWT.out.mono ?_
        rintro e w4 ⟨rfl, hb4⟩
        clear t0 t1 t2 t3 t4 t5 t6
        have S4 := HS3.out.below hb4
        have F4 := HKF.out _ _ _ S4
        have FT4 := HFT3.out.below hb4 HFT3.out.lt
        have HT4 := HT3h.out.kept (w' := w4) (P' := fun c => W0.heap.size ≤ c) (fun g hg hp => ⟨hp.1, hb4.block g hg⟩)
        have FIN := Lib.hid (node_put (HS0.out.trans S4) F4 HT4 hsA)
        obtain ⟨z7, _⟩ := rx_end7 (.int .i64 kind) (.int .i64 code) (.bool neg) (.slice A3 n3 c3) (.int .i64 lo) (.int .i64 hi') (.slice A2 n2 c2) F4
        obtain ⟨⟨y0, y1, y2, y3, y4, y5, y6⟩, _⟩ := z7.seven
        obtain ⟨⟨k0, k1, k2, k3, k4, k5, k6⟩, f0, f1, f2, f3', f4, f5, f6⟩ := F4.seven
        obtain ⟨⟨t0, t1, t2, t3, t4, t5, t6⟩, _⟩ := FT4.seven
        unfold put7 at y0 y1 y2 y3 y4 y5 y6
        clear F4 z7 S4 FT4 HT4 HKF CWT hb4
        have hq : decide (200 < wt) = false := by
          rw [decide_eq_false_iff_not]
          omega
        dsimp only
        iterate 7 (first | go_values | go_skip | go_guarded | go_step | go_upon | go_back)
        clear hq hbig
        go_wp2_with fail
        exact bodyPost_ret (v := .agg #[.int .i64 kind, .int .i64 code, .bool neg, .slice A3 n3 c3, .int .i64 lo, .int .i64 hi', .slice A2 n2 c2]) (by simp [results, Tryd.results13, go_sem, y0, y1, y2, y3, y4, y5, y6]) rfl FIN.out
end Go.Proofs.YtmfcofiihopbfaaDoor

namespace Go.Proofs.YtmfcofiihopbfaaDoor
open Go.RowKit Go.Lib

/-- What Parse leans on. -/
structure REnv (W : World) : Prop where
  tabs : Utf8Tabs 0 1 W
  mx : ∃ m, W.cell? ⟨2, 0, none⟩ = some (.int .i64 m)
theorem REnv.far {W : World} (h : REnv W) : 0 < W.heap.size ∧ 1 < W.heap.size ∧ 2 < W.heap.size := by
  obtain ⟨m, hm⟩ := h.mx
  exact ⟨World.block_lt_of_cell? W _ (h.tabs.1 0 (by omega)), World.block_lt_of_cell? W _ (h.tabs.2 0 (by omega)).1, World.block_lt_of_cell? W _ hm⟩
theorem REnv.env {W X : World} (h : REnv W) (hb : Below W.heap.size W X) {pb : Nat} (hp : W.heap.size ≤ pb) : Env X pb := by
  obtain ⟨m, hm⟩ := h.mx
  obtain ⟨f1, f2, f3⟩ := h.far
  exact ⟨tabs_sub h.tabs hb f1 f2, ⟨m, (hb.cell (p := ⟨2, 0, none⟩) f3).trans hm⟩, by omega, by omega, by omega⟩
theorem REnv.kept {W X : World} (h : REnv W) (hb : Below W.heap.size W X) : REnv X := by
  obtain ⟨m, hm⟩ := h.mx
  obtain ⟨f1, f2, f3⟩ := h.far
  exact ⟨tabs_sub h.tabs hb f1 f2, ⟨m, (hb.cell (p := ⟨2, 0, none⟩) f3).trans hm⟩⟩
/-- What Parse hands back. -/
def PrsOut (W : World) (r : Tr × Nat × Int) (e : Ending) (w' : World) : Prop :=
  ∃ vs, e = .returned (.tuple #[.agg vs, .int .i64 (r.2.1 : Int), .int .i64 r.2.2]) ∧ TrV w' (fun c => W.heap.size ≤ c) r.1 vs ∧ Below W.heap.size W w'
abbrev psW (W : World) (s : ByteArray) (b : Bool) : World := (((W.alloc (.cells zero7 30)).alloc (.cells #[.int .i64 0] 3)).alloc (.cells #[.int .i64 0] 23)).alloc (.cells #[.string s, .bool b, .int .i64 0, .int .i64 0] 46)
set_option maxRecDepth 100000 in
set_option maxHeartbeats 1500000 in
theorem rx_parse {s : ByteArray} (hs : s.size ≤ 1024) (b : Bool) {W : World} (hE : REnv W) :
    Calls Tryd.prog 8 #[.string s, .bool b] W (PrsOut W (rxParse s b)) := by
  have hmf : ∀ (fn : Fn) (first cap : Array Value) (w : World), (Instr.makeFunc fn first cap).run Tryd.prog w = .ok (.func fn first cap) w := fun _ _ _ _ => rfl
  have hB : Below W.heap.size W (psW W s b) := ((((Below.refl W.heap.size W).alloc (Nat.le_refl _) _).alloc (by simp) _).alloc (by simp; omega) _).alloc (by simp; omega) _
  have P4 : Prs (psW W s b) (W.heap.size + 3) s b 0 0 := by
    have := Blk.new (((W.alloc (.cells zero7 30)).alloc (.cells #[.int .i64 0] 3)).alloc (.cells #[.int .i64 0] 23)) #[.string s, .bool b, .int .i64 0, .int .i64 0] 46
    simpa [Prs] using this
  have bt : Blk (psW W s b) W.heap.size zero7 30 := ((Blk.new W zero7 30).alloc _).alloc _ |>.alloc _
  have ba : Blk (psW W s b) (W.heap.size + 1) #[.int .i64 0] 3 := by
    have := ((Blk.new (W.alloc (.cells zero7 30)) #[.int .i64 0] 3).alloc (.cells #[.int .i64 0] 23)).alloc (.cells #[.string s, .bool b, .int .i64 0, .int .i64 0] 46)
    simpa using this
  have be : Blk (psW W s b) (W.heap.size + 2) #[.int .i64 0] 23 := by
    have := (Blk.new ((W.alloc (.cells zero7 30)).alloc (.cells #[.int .i64 0] 3)) #[.int .i64 0] 23).alloc (.cells #[.string s, .bool b, .int .i64 0, .int .i64 0] 46)
    simpa using this
  have hz : (psW W s b).heap.size = W.heap.size + 4 := by simp
  have CWh := rx_whole P4 hs (hE.env hB (by omega))
  have hlen : decide (1024 < (s.size : Int)) = false := by rw [decide_eq_false_iff_not]; omega
  rw [parse_wh s b hs]
  cases hQ : whF s b with
  | bad k er =>
    rw [hQ] at CWh
    have CWh := Lib.hid CWh
    have HB := Lib.hid hB
    have HBT := Lib.hid bt
    have HBA := Lib.hid ba
    have HBE := Lib.hid be
    have HZ := Lib.hid hz
    clear hQ hE hB P4 bt ba be hz
    go_enter_defers Tryd.func8, Tryd.ntmps8
    go_wp2_with fail
    refine CWh.out.mono ?_
    rintro e w2 ⟨rfl, hO⟩
    have hz4 := HZ.out
    have ht := HBT.out.off2 hO (by omega) (by omega)
    have ha := HBA.out.off2 hO (by omega) (by omega)
    have he := HBE.out.off2 hO (by omega) (by omega)
    have hb2 := HB.out.trans (hO.below (by omega) (by omega) (by omega))
    refine leaves_cons (f := 12) (args := #[.pointer (some ⟨W.heap.size, 0, none⟩), .pointer (some ⟨W.heap.size + 1, 0, none⟩), .pointer (some ⟨W.heap.size + 2, 0, none⟩)]) (by simp) (by simp [go_sem]) ?_
    refine (rx_caught W.heap.size (W.heap.size + 1) (W.heap.size + 2) (k : Int) er 0 0 [] w2 zero7 ht rfl ha he (by omega) (by omega) (by omega)).mono ?_
    rintro e u' w3 ⟨rfl, rfl, hBB, bt, ba, be⟩
    have hb3 := hb2.trans (hBB W.heap.size (Nat.le_refl _) (by omega) (by omega) hb2.size)
    obtain ⟨⟨t0, t1, t2, t3, t4, t5, t6⟩, _⟩ := bt.seven
    have a0 := ba.cell 0
    have e0 := be.cell 0
    simp only [List.getElem?_toArray, List.getElem?_cons_zero] at a0 e0
    show Leaves _ _ _ _ [] .returning w3
    exact ⟨.tuple #[.agg zero7, .int .i64 (k : Int), .int .i64 er], by simp [results, Tryd.results8, go_sem, t0, t1, t2, t3, t4, t5, t6, a0, e0], zero7, rfl, TrV.leaf _ _ 0 0 false 0 0, hb3⟩
  | ok t k =>
    rw [hQ] at CWh
    have CWh := Lib.hid CWh
    have HB := Lib.hid hB
    have HBT := Lib.hid bt
    have HBA := Lib.hid ba
    have HBE := Lib.hid be
    have HZ := Lib.hid hz
    clear hQ hE hB P4 bt ba be hz
    go_enter_defers Tryd.func8, Tryd.ntmps8
    go_wp2_with fail
    refine CWh.out.mono ?_
    rintro e w2 ⟨vv, rfl, ⟨vs, rfl, hT⟩, hS⟩
    obtain ⟨kind, code, neg, A3, n3', c3, lo, hi', A2, n2', c2', rfl⟩ := hT.form
    have hz4 := HZ.out
    have hO := hS.off
    have hs2 := hO.size
    have ht := HBT.out.off2 hO (by omega) (by omega)
    have ha := HBA.out.off2 hO (by omega) (by omega)
    have he := HBE.out.off2 hO (by omega) (by omega)
    have hb2 := HB.out.trans (hO.below (by omega) (by omega) (by omega))
    obtain ⟨⟨x0, x1, x2, x3, x4, x5, x6⟩, f0, f1, f2, f3, f4, f5, f6⟩ := ht.seven
    have a0 := ha.cell 0
    have e0 := he.cell 0
    have g0 := ha.fro 0
    have g1 := he.fro 0
    simp only [List.getElem?_toArray, List.getElem?_cons_zero] at a0 e0
    have n1 : W.heap.size ≠ W.heap.size + 1 := by omega
    have n2 : W.heap.size ≠ W.heap.size + 2 := by omega
    have n3 : W.heap.size + 1 ≠ W.heap.size + 2 := by omega
    obtain ⟨z7, o7⟩ := rx_end7 (.int .i64 kind) (.int .i64 code) (.bool neg) (.slice A3 n3' c3) (.int .i64 lo) (.int .i64 hi') (.slice A2 n2' c2') ht
    have k1 := ha.off2 o7 n1.symm n1.symm
    have k2 := he.off2 o7 n2.symm n2.symm
    have c1 := Blk.set (j := 0) (u := .int .i64 0) k1
    have c0 := z7.other (j := 0) (u := .int .i64 0) n1
    have c2 := k2.other (j := 0) (u := .int .i64 0) n3.symm
    have d2 := Blk.set (j := 0) (u := .int .i64 0) c2
    have d0 := c0.other (j := 0) (u := .int .i64 0) n2
    have d1 := c1.other (j := 0) (u := .int .i64 0) n3
    have o1 := Off2.setCell (put7 w2 W.heap.size (.int .i64 kind) (.int .i64 code) (.bool neg) (.slice A3 n3' c3) (.int .i64 lo) (.int .i64 hi') (.slice A2 n2' c2')) (W.heap.size + 1) (W.heap.size + 1) 0 (.int .i64 0)
    have o2 := Off2.setCell ((put7 w2 W.heap.size (.int .i64 kind) (.int .i64 code) (.bool neg) (.slice A3 n3' c3) (.int .i64 lo) (.int .i64 hi') (.slice A2 n2' c2')).setCell ⟨W.heap.size + 1, 0, none⟩ (.int .i64 0)) (W.heap.size + 2) (W.heap.size + 2) 0 (.int .i64 0)
    have FIN : TrV (((put7 w2 W.heap.size (.int .i64 kind) (.int .i64 code) (.bool neg) (.slice A3 n3' c3) (.int .i64 lo) (.int .i64 hi') (.slice A2 n2' c2')).setCell ⟨W.heap.size + 1, 0, none⟩ (.int .i64 0)).setCell ⟨W.heap.size + 2, 0, none⟩ (.int .i64 0)) (fun c => W.heap.size ≤ c) t #[.int .i64 kind, .int .i64 code, .bool neg, .slice A3 n3' c3, .int .i64 lo, .int .i64 hi', .slice A2 n2' c2'] := by
      refine hT.kept (fun g hg hp => ⟨?_, ?_⟩)
      · have hp : (psW W s b).heap.size ≤ g := hp
        show W.heap.size ≤ g
        omega
      · have hp : (psW W s b).heap.size ≤ g := hp
        have q1 := o7.block g hg (by omega) (by omega)
        have q2 := o1.block g (Nat.lt_of_lt_of_le hg o7.size) (by omega) (by omega)
        have q3 := o2.block g (Nat.lt_of_lt_of_le (Nat.lt_of_lt_of_le hg o7.size) o1.size) (by omega) (by omega)
        exact q3.trans (q2.trans q1)
    have hb3 : Below W.heap.size W (((put7 w2 W.heap.size (.int .i64 kind) (.int .i64 code) (.bool neg) (.slice A3 n3' c3) (.int .i64 lo) (.int .i64 hi') (.slice A2 n2' c2')).setCell ⟨W.heap.size + 1, 0, none⟩ (.int .i64 0)).setCell ⟨W.heap.size + 2, 0, none⟩ (.int .i64 0)) :=
      ((hb2.trans (o7.below (Nat.le_refl _) (Nat.le_refl _) hb2.size)).trans (o1.below (by omega) (by omega) (Nat.le_trans hb2.size o7.size))).trans (o2.below (by omega) (by omega) (Nat.le_trans (Nat.le_trans hb2.size o7.size) o1.size))
    obtain ⟨⟨y0, y1, y2, y3, y4, y5, y6⟩, _⟩ := d0.seven
    have y7 := d1.cell 0
    have y8 := d2.cell 0
    simp at y7 y8
    have HFIN := Lib.hid (And.intro FIN hb3)
    have HY := Lib.hid (And.intro (And.intro y0 (And.intro y1 (And.intro y2 (And.intro y3 (And.intro y4 (And.intro y5 y6)))))) (And.intro y7 y8))
    clear z7 o7 k1 k2 c1 c0 c2 d2 d0 d1 o1 o2 FIN hb3 ht ha he hb2 hO hS hT HBT HBA HBE HB y0 y1 y2 y3 y4 y5 y6 y7 y8 CWh
    go_wp2_with fail
    refine leaves_cons (f := 12) (args := #[.pointer (some ⟨W.heap.size, 0, none⟩), .pointer (some ⟨W.heap.size + 1, 0, none⟩), .pointer (some ⟨W.heap.size + 2, 0, none⟩)]) (by simp) (by simp [go_sem]) ?_
    refine (rx_idle ⟨W.heap.size, 0, none⟩ ⟨W.heap.size + 1, 0, none⟩ ⟨W.heap.size + 2, 0, none⟩ _).mono ?_
    rintro e u' w3 ⟨rfl, rfl, hw3⟩
    have hw4 : w3 = ((put7 w2 W.heap.size (.int .i64 kind) (.int .i64 code) (.bool neg) (.slice A3 n3' c3) (.int .i64 lo) (.int .i64 hi') (.slice A2 n2' c2')).setCell ⟨W.heap.size + 1, 0, none⟩ (.int .i64 0)).setCell ⟨W.heap.size + 2, 0, none⟩ (.int .i64 0) := hw3
    clear hw3
    obtain ⟨⟨y0, y1, y2, y3, y4, y5, y6⟩, y7, y8⟩ := HY.out
    rw [← hw4] at y0 y1 y2 y3 y4 y5 y6 y7 y8
    show Leaves _ _ _ _ [] .returning w3
    exact ⟨.tuple #[.agg #[.int .i64 kind, .int .i64 code, .bool neg, .slice A3 n3' c3, .int .i64 lo, .int .i64 hi', .slice A2 n2' c2'], .int .i64 0, .int .i64 0], by simp [results, Tryd.results8, go_sem, y0, y1, y2, y3, y4, y5, y6, y7, y8], _, rfl, hw4 ▸ HFIN.out.1, hw4 ▸ HFIN.out.2⟩
end Go.Proofs.YtmfcofiihopbfaaDoor

namespace Go.Proofs.YtmfcofiihopbfaaDoor
open Go.RowKit Go.Lib

theorem RgIn.at {w : World} {P : Nat → Prop} {set : List (Int × Int)} {A : Option Addr} {n c : Nat} (h : RgIn w P set (.slice A n c)) (j : Nat) (x y : Int) (hj : set[j]? = some (x, y)) :
    ∃ g, A = some ⟨g, 0, none⟩ ∧ P g ∧ w.cell? ⟨g, j * 2, none⟩ = some (.int .i64 x) ∧ w.cell? ⟨g, j * 2 + 1, none⟩ = some (.int .i64 y) := by
  obtain ⟨A', c', e, _, h⟩ := h
  injection e with e1 e2 e3
  subst e1
  exact h j (x, y) hj
set_option maxRecDepth 100000 in
set_option maxHeartbeats 4000000 in
/-- Same, of two equal trees no greater than so. -/
theorem rx_same_n : ∀ (N : Nat) (t : Tr) (P P' : Nat → Prop) (vs us : Array Value) (W : World), SizeOf.sizeOf t ≤ N → TrV W P t vs → TrV W P' t us → Calls Tryd.prog 9 #[.agg vs, .agg us] W fun e w' => e = .returned (.bool true) ∧ Below W.heap.size W w'
  | 0, t, _, _, _, _, _, h, _, _ => by cases t; simp at h
  | N + 1, .mk kind code neg set lo hi kids, P, P', vs, us, W, hN, h, h' => by
    obtain ⟨sv, A, cap, rfl, hkl, hR, hI⟩ := h.open
    obtain ⟨A3, c3, rfl⟩ := rx_store_set hR
    obtain ⟨sv', B, bap, rfl, _, hR', hI'⟩ := h'.open
    obtain ⟨B3, d3, rfl⟩ := rx_store_set hR'
    have hsl : set.length ≤ 100000 := by obtain ⟨_, _, _, q, _⟩ := hR; exact q
    have F1 := Blk.new W #[.int .i64 kind, .int .i64 code, .bool neg, .slice A3 set.length c3, .int .i64 lo, .int .i64 hi, .slice A kids.length cap] 30
    have hb1 := (Below.refl W.heap.size W).alloc (Nat.le_refl _) (.cells #[.int .i64 kind, .int .i64 code, .bool neg, .slice A3 set.length c3, .int .i64 lo, .int .i64 hi, .slice A kids.length cap] 30)
    obtain ⟨W1, hW1⟩ : ∃ W1, W.alloc (.cells #[.int .i64 kind, .int .i64 code, .bool neg, .slice A3 set.length c3, .int .i64 lo, .int .i64 hi, .slice A kids.length cap] 30) = W1 := ⟨_, rfl⟩
    rw [hW1] at F1 hb1
    have F2 := Blk.new W1 #[.int .i64 kind, .int .i64 code, .bool neg, .slice B3 set.length d3, .int .i64 lo, .int .i64 hi, .slice B kids.length bap] 30
    have hb2 := hb1.alloc hb1.size (.cells #[.int .i64 kind, .int .i64 code, .bool neg, .slice B3 set.length d3, .int .i64 lo, .int .i64 hi, .slice B kids.length bap] 30)
    have F1' := F1.alloc (.cells #[.int .i64 kind, .int .i64 code, .bool neg, .slice B3 set.length d3, .int .i64 lo, .int .i64 hi, .slice B kids.length bap] 30)
    obtain ⟨W2, hW2⟩ : ∃ W2, W1.alloc (.cells #[.int .i64 kind, .int .i64 code, .bool neg, .slice B3 set.length d3, .int .i64 lo, .int .i64 hi, .slice B kids.length bap] 30) = W2 := ⟨_, rfl⟩
    rw [hW2] at F2 hb2 F1'
    have HK := Lib.hid (fun (w : World) (hb : Below W2.heap.size W2 w) => And.intro (F1'.below hb F1'.lt).seven.1 (F2.below hb F2.lt).seven.1)
    have HB2 := Lib.hid hb2
    have hs2 := hb2.size
    have IH := Lib.hid (fun (t : Tr) (ht : t ∈ kids) (Q Q' : Nat → Prop) (vs us : Array Value) (w : World) (hv : TrV w Q t vs) (hu : TrV w Q' t us) => rx_same_n N t _ _ vs us w (by have := size_kid (kind := kind) (code := code) (neg := neg) (set := set) (lo := lo) (hi := hi) ht; omega) hv hu)
    have HI := Lib.hid (fun (w : World) (hb : Below W.heap.size W w) => Tr.Ins.keep (w' := w) (P' := fun g => g < W.heap.size ∧ P g) (fun g hg hp => ⟨⟨hg, hp⟩, hb.block g hg⟩) kids A 0 hI)
    have HJ := Lib.hid (fun (w : World) (hb : Below W.heap.size W w) => Tr.Ins.keep (w' := w) (P' := fun g => g < W.heap.size ∧ P' g) (fun g hg hp => ⟨⟨hg, hp⟩, hb.block g hg⟩) kids B 0 hI')
    have HR := Lib.hid (fun (w : World) (hb : Below W.heap.size W w) => RgIn.kept (w' := w) (P' := P) hR (fun g hg hp => ⟨hp, hb.block g hg⟩))
    have HS := Lib.hid (fun (w : World) (hb : Below W.heap.size W w) => RgIn.kept (w' := w) (P' := P') hR' (fun g hg hp => ⟨hp, hb.block g hg⟩))
    obtain ⟨⟨x0, x1, x2, x3, x4, x5, x6⟩, y0, y1, y2, y3, y4, y5, y6⟩ := HK.out W2 (Below.refl _ _)
    obtain ⟨ml, hml⟩ : ∃ ml, kids.length = ml := ⟨_, rfl⟩
    obtain ⟨sl, hsl2⟩ : ∃ sl, set.length = sl := ⟨_, rfl⟩
    rw [hml] at hkl
    rw [hsl2] at hsl
    simp only [hml, hsl2] at HK HR HS hW1 hW2 x3 x6 y3 y6
    have HML := Lib.hid hml
    have HSL := Lib.hid hsl2
    simp only [hml, hsl2]
    clear h h' hR hI hR' hI' F1 F2 F1' hb1 hb2 hN hml hsl2
    go_enter Tryd.func9, Tryd.ntmps9
    go_wp2_with fail
    clear hW1 hW2 x0 x1 x2 x3 x4 x5 x6 y0 y1 y2 y3 y4 y5 y6
    go_loopw [5] (fun iv wr => ∃ k : Nat, iv = .int .i64 (k : Int) ∧ k ≤ sl ∧ Below W2.heap.size W2 wr) (fun iv _ => sl - (RowKit.intOf iv).toNat)
    case atStart => exact ⟨0, rfl, Nat.zero_le _, Below.refl _ _⟩
    case round =>
      obtain ⟨k, rfl, hk, hB⟩ := hrel
      obtain ⟨⟨x0, x1, x2, x3, x4, x5, x6⟩, y0, y1, y2, y3, y4, y5, y6⟩ := HK.out wr hB
      have HB := Lib.hid hB
      by_cases hlt : k < sl
      · obtain ⟨⟨x, y⟩, hxy⟩ : ∃ r, set[k]? = some r := ⟨_, List.getElem?_eq_getElem (by rw [HSL.out]; exact hlt)⟩
        obtain ⟨g, rfl, _, g0, g1⟩ := (HR.out wr (HB2.out.trans (hB.mono hs2))).at k x y hxy
        obtain ⟨q, rfl, _, q0, q1⟩ := (HS.out wr (HB2.out.trans (hB.mono hs2))).at k x y hxy
        obtain ⟨k1, hk1⟩ : ∃ k1, k + 1 = k1 := ⟨_, rfl⟩
        have hw2 : IntKind.i64.wrap ((k : Int) + 1) = (k1 : Int) := by simp [IntKind.wrap, IntKind.bits, IntKind.signed]; omega
        have hbl : (k : Int) < (sl : Int) := by omega
        have hb0 : ¬ (k : Int) < 0 := by omega
        have FIN := Lib.hid (fun n => show Below W2.heap.size W2 (wr.drewN n) from below_drewN hB n)
        clear hxy hB IH HI HJ HR HS
        go_wp2_with fail
        go_quiet (fail)
        go_wp2_with fail
        refine ⟨⟨k1, rfl, by omega, FIN.out _⟩, ?_⟩
        simp [RowKit.intOf]
        omega
      · obtain rfl : k = sl := by omega
        clear hB
        go_wp2_with fail
        go_loopw [6] (fun iv wr => ∃ k : Nat, iv = .int .i64 (k : Int) ∧ k ≤ ml ∧ Below W2.heap.size W2 wr) (fun iv _ => ml - (RowKit.intOf iv).toNat)
        case atStart => exact ⟨0, rfl, Nat.zero_le _, HB.out⟩
        case round =>
          obtain ⟨j, rfl, hj, hBj⟩ := hrel
          clear x0 x1 x2 x3 x4 x5 x6 y0 y1 y2 y3 y4 y5 y6
          obtain ⟨⟨x0, x1, x2, x3, x4, x5, x6⟩, y0, y1, y2, y3, y4, y5, y6⟩ := HK.out wr hBj
          have HBj := Lib.hid hBj
          have hbW := HB2.out.trans (hBj.mono hs2)
          have HBW := Lib.hid hbW
          by_cases hlt2 : j < ml
          · obtain ⟨u, hu⟩ : ∃ u, kids[j]? = some u := ⟨_, List.getElem?_eq_getElem (by rw [HML.out]; exact hlt2)⟩
            have hmem : u ∈ kids := List.mem_of_getElem? hu
            obtain ⟨g, kind1, code1, neg1, A31, n31, c31, lo1, hi1, A21, n21, c21, hA, ⟨u0, u1, u2, u3, u4, u5, u6⟩, hT⟩ := TrV.at (HI.out wr hbW) j u hu
            subst hA
            obtain ⟨q, kind2, code2, neg2, A32, n32, c32, lo2, hi2, A22, n22, c22, hA, ⟨v0, v1, v2, v3, v4, v5, v6⟩, hT'⟩ := TrV.at (HJ.out wr hbW) j u hu
            subst hA
            have CS := Lib.hid (fun (w : World) (hb : Below wr.heap.size wr w) => IH.out u hmem _ _ _ _ w (hT.kept (P' := fun g => g < W.heap.size ∧ P g) (fun g hg hp => ⟨hp, hb.block g hg⟩)) (hT'.kept (P' := fun g => g < W.heap.size ∧ P' g) (fun g hg hp => ⟨hp, hb.block g hg⟩)))
            have KP := Lib.hid (fun (w : World) (hb : Below wr.heap.size wr w) => show (fun w' => (w'.cell? ⟨W.heap.size, 6, none⟩ = some (.slice (some ⟨g, 0, none⟩) ml cap) ∧ w'.cell? ⟨W1.heap.size, 6, none⟩ = some (.slice (some ⟨q, 0, none⟩) ml bap)) ∧ (w'.cell? ⟨g, j * 7, none⟩ = some (.int .i64 kind1) ∧ w'.cell? ⟨g, j * 7 + 1, none⟩ = some (.int .i64 code1) ∧ w'.cell? ⟨g, j * 7 + 2, none⟩ = some (.bool neg1) ∧ w'.cell? ⟨g, j * 7 + 3, none⟩ = some (.slice A31 n31 c31) ∧ w'.cell? ⟨g, j * 7 + 4, none⟩ = some (.int .i64 lo1) ∧ w'.cell? ⟨g, j * 7 + 5, none⟩ = some (.int .i64 hi1) ∧ w'.cell? ⟨g, j * 7 + 6, none⟩ = some (.slice A21 n21 c21)) ∧ (w'.cell? ⟨q, j * 7, none⟩ = some (.int .i64 kind2) ∧ w'.cell? ⟨q, j * 7 + 1, none⟩ = some (.int .i64 code2) ∧ w'.cell? ⟨q, j * 7 + 2, none⟩ = some (.bool neg2) ∧ w'.cell? ⟨q, j * 7 + 3, none⟩ = some (.slice A32 n32 c32) ∧ w'.cell? ⟨q, j * 7 + 4, none⟩ = some (.int .i64 lo2) ∧ w'.cell? ⟨q, j * 7 + 5, none⟩ = some (.int .i64 hi2) ∧ w'.cell? ⟨q, j * 7 + 6, none⟩ = some (.slice A22 n22 c22))) w from ⟨⟨(hb.cell (World.block_lt_of_cell? wr _ x6)).trans x6, (hb.cell (World.block_lt_of_cell? wr _ y6)).trans y6⟩, ⟨(hb.cell (World.block_lt_of_cell? wr _ u0)).trans u0, (hb.cell (World.block_lt_of_cell? wr _ u1)).trans u1, (hb.cell (World.block_lt_of_cell? wr _ u2)).trans u2, (hb.cell (World.block_lt_of_cell? wr _ u3)).trans u3, (hb.cell (World.block_lt_of_cell? wr _ u4)).trans u4, (hb.cell (World.block_lt_of_cell? wr _ u5)).trans u5, (hb.cell (World.block_lt_of_cell? wr _ u6)).trans u6⟩, ⟨(hb.cell (World.block_lt_of_cell? wr _ v0)).trans v0, (hb.cell (World.block_lt_of_cell? wr _ v1)).trans v1, (hb.cell (World.block_lt_of_cell? wr _ v2)).trans v2, (hb.cell (World.block_lt_of_cell? wr _ v3)).trans v3, (hb.cell (World.block_lt_of_cell? wr _ v4)).trans v4, (hb.cell (World.block_lt_of_cell? wr _ v5)).trans v5, (hb.cell (World.block_lt_of_cell? wr _ v6)).trans v6⟩⟩)
            obtain ⟨j1, hj1⟩ : ∃ j1, j + 1 = j1 := ⟨_, rfl⟩
            have hw2 : IntKind.i64.wrap ((j : Int) + 1) = (j1 : Int) := by simp [IntKind.wrap, IntKind.bits, IntKind.signed]; omega
            have hbl : (j : Int) < (ml : Int) := by omega
            have hb0 : ¬ (j : Int) < 0 := by omega
            clear hT hT' hu hmem hBj hbW IH HI HJ HR HS HK
            go_wp2_with fail
            go_region_held3 (fun w' => (w'.cell? ⟨W.heap.size, 6, none⟩ = some (.slice (some ⟨g, 0, none⟩) ml cap) ∧ w'.cell? ⟨W1.heap.size, 6, none⟩ = some (.slice (some ⟨q, 0, none⟩) ml bap)) ∧ (w'.cell? ⟨g, j * 7, none⟩ = some (.int .i64 kind1) ∧ w'.cell? ⟨g, j * 7 + 1, none⟩ = some (.int .i64 code1) ∧ w'.cell? ⟨g, j * 7 + 2, none⟩ = some (.bool neg1) ∧ w'.cell? ⟨g, j * 7 + 3, none⟩ = some (.slice A31 n31 c31) ∧ w'.cell? ⟨g, j * 7 + 4, none⟩ = some (.int .i64 lo1) ∧ w'.cell? ⟨g, j * 7 + 5, none⟩ = some (.int .i64 hi1) ∧ w'.cell? ⟨g, j * 7 + 6, none⟩ = some (.slice A21 n21 c21)) ∧ (w'.cell? ⟨q, j * 7, none⟩ = some (.int .i64 kind2) ∧ w'.cell? ⟨q, j * 7 + 1, none⟩ = some (.int .i64 code2) ∧ w'.cell? ⟨q, j * 7 + 2, none⟩ = some (.bool neg2) ∧ w'.cell? ⟨q, j * 7 + 3, none⟩ = some (.slice A32 n32 c32) ∧ w'.cell? ⟨q, j * 7 + 4, none⟩ = some (.int .i64 lo2) ∧ w'.cell? ⟨q, j * 7 + 5, none⟩ = some (.int .i64 hi2) ∧ w'.cell? ⟨q, j * 7 + 6, none⟩ = some (.slice A22 n22 c22)))
              (first | (with_reducible exact S2) | go_keep)
              (first | (go_at_call 9; refine (CS.out _ (below_drew' _ _)).mono ?_; rintro e w2 ⟨rfl, hbs⟩; have hb2 : Below wr.heap.size wr w2 := (below_drew' _ _).trans hbs; have S2 := KP.out _ hb2; clear hbs))
            all_goals
              clear S2
              have HX := Lib.hid (HBj.out.trans (hb2.mono HBj.out.size))
              clear hb2
              go_wp2_with fail
              refine ⟨⟨j1, rfl, by omega, HX.out⟩, ?_⟩
              simp [RowKit.intOf]
              omega
          · obtain rfl : j = ml := by omega
            clear hBj hbW
            go_wp2_with fail
            go_ret
            exact ⟨rfl, HBW.out⟩
theorem rx_same {W : World} {P P' : Nat → Prop} {t : Tr} {vs us : Array Value} (h : TrV W P t vs) (h' : TrV W P' t us) : Calls Tryd.prog 9 #[.agg vs, .agg us] W fun e w' => e = .returned (.bool true) ∧ Below W.heap.size W w' := rx_same_n _ t P P' vs us W (Nat.le_refl _) h h'
end Go.Proofs.YtmfcofiihopbfaaDoor

namespace Go.Proofs.YtmfcofiihopbfaaDoor
open Go.Lib

/-- The document's example. -/
theorem ex_one : rxParse ⟨#[97, 124, 91, 98, 45, 100, 93, 123, 50, 44, 125]⟩ false = (trN 6 [trC 97, trR 2 (-1) (trS false [(98, 100)])], 0, 0) := by kernel_rfl
theorem ex_two : rxParse ⟨#[97, 40, 98]⟩ false = (trZ, 1, 90) := by kernel_rfl
end Go.Proofs.YtmfcofiihopbfaaDoor

namespace Go.Proofs.YtmfcofiihopbfaaDoor
open Go.RowKit Go.Lib

theorem in_row {X : World} {P : Nat → Prop} {g o : Nat} {t : Tr} {vs cs : Array Value} {T : TypeId} (hb : Blk X g cs T) (ht : TrV X P t vs) (hcs : ∀ i, i < 7 → cs[o + i]? = vs[i]?) : t.In X P (fun i => X.cell? ⟨g, o + i, none⟩) :=
  ht.2.congr fun i hi => (hb.cell (o + i)).trans (hcs i hi)
theorem ins_one {X : World} {P : Nat → Prop} {g : Nat} {t : Tr} {vs cs : Array Value} {T : TypeId} (hb : Blk X g cs T) (hp : P g) (ht : TrV X P t vs) (hcs : ∀ i, i < 7 → cs[0 + i]? = vs[i]?) : Tr.Ins X P [t] (some ⟨g, 0, none⟩) 0 := by
  rw [Tr.Ins, Tr.Ins]
  exact ⟨⟨g, rfl, hp, in_row hb ht hcs⟩, trivial⟩
theorem ins_two {X : World} {P : Nat → Prop} {g : Nat} {t u : Tr} {vs us cs : Array Value} {T : TypeId} (hb : Blk X g cs T) (hp : P g) (ht : TrV X P t vs) (hu : TrV X P u us) (hcs : ∀ i, i < 7 → cs[0 + i]? = vs[i]?) (hds : ∀ i, i < 7 → cs[0 + 7 + i]? = us[i]?) : Tr.Ins X P [t, u] (some ⟨g, 0, none⟩) 0 := by
  rw [Tr.Ins, Tr.Ins, Tr.Ins]
  exact ⟨⟨g, rfl, hp, in_row hb ht hcs⟩, ⟨g, rfl, hp, in_row hb hu hds⟩, trivial⟩
theorem rg_one {X : World} {P : Nat → Prop} {g : Nat} {x y : Int} {T : TypeId} (hb : Blk X g #[.int .i64 x, .int .i64 y] T) (hp : P g) : RgIn X P [(x, y)] (.slice (some ⟨g, 0, none⟩) 1 1) :=
  ⟨_, _, rfl, by simp, fun j r hj => by
    cases j with
    | zero =>
      obtain rfl : (x, y) = r := by simpa using hj
      exact ⟨g, rfl, hp, hb.cell 0, hb.cell 1⟩
    | succ j => simp at hj⟩
theorem seven_cases {p : Nat → Prop} (h0 : p 0) (h1 : p 1) (h2 : p 2) (h3 : p 3) (h4 : p 4) (h5 : p 5) (h6 : p 6) : ∀ i, i < 7 → p i := fun i hi => by
  have : i = 0 ∨ i = 1 ∨ i = 2 ∨ i = 3 ∨ i = 4 ∨ i = 5 ∨ i = 6 := by omega
  rcases this with rfl | rfl | rfl | rfl | rfl | rfl | rfl <;> assumption
/-- The example's tree, as the law lays it. -/
abbrev exW (w : World) : World := ((w.alloc (.cells #[.int .i64 98, .int .i64 100] 42)).alloc (.cells #[.int .i64 4, .int .i64 0, .bool false, .slice (some ⟨w.heap.size, 0, none⟩) 1 1, .int .i64 0, .int .i64 0, .slice none 0 0] 30)).alloc
  (.cells #[.int .i64 2, .int .i64 97, .bool false, .slice none 0 0, .int .i64 0, .int .i64 0, .slice none 0 0, .int .i64 7, .int .i64 0, .bool false, .slice none 0 0, .int .i64 2, .int .i64 (-1), .slice (some ⟨w.heap.size + 1, 0, none⟩) 1 1] 30)
theorem exTree (w : World) : TrV (exW w) (fun _ => True) (trN 6 [trC 97, trR 2 (-1) (trS false [(98, 100)])]) #[.int .i64 6, .int .i64 0, .bool false, .slice none 0 0, .int .i64 0, .int .i64 0, .slice (some ⟨w.heap.size + 2, 0, none⟩) 2 2] := by
  have b0 : Blk (exW w) w.heap.size #[.int .i64 98, .int .i64 100] 42 := ((Blk.new w _ _).alloc _).alloc _
  have b1 : Blk (exW w) (w.heap.size + 1) #[.int .i64 4, .int .i64 0, .bool false, .slice (some ⟨w.heap.size, 0, none⟩) 1 1, .int .i64 0, .int .i64 0, .slice none 0 0] 30 := by
    have := (Blk.new (w.alloc (.cells #[.int .i64 98, .int .i64 100] 42)) #[.int .i64 4, .int .i64 0, .bool false, .slice (some ⟨w.heap.size, 0, none⟩) 1 1, .int .i64 0, .int .i64 0, .slice none 0 0] 30).alloc (.cells #[.int .i64 2, .int .i64 97, .bool false, .slice none 0 0, .int .i64 0, .int .i64 0, .slice none 0 0, .int .i64 7, .int .i64 0, .bool false, .slice none 0 0, .int .i64 2, .int .i64 (-1), .slice (some ⟨w.heap.size + 1, 0, none⟩) 1 1] 30)
    rw [World.size_alloc] at this
    exact this
  have b2 : Blk (exW w) (w.heap.size + 2) #[.int .i64 2, .int .i64 97, .bool false, .slice none 0 0, .int .i64 0, .int .i64 0, .slice none 0 0, .int .i64 7, .int .i64 0, .bool false, .slice none 0 0, .int .i64 2, .int .i64 (-1), .slice (some ⟨w.heap.size + 1, 0, none⟩) 1 1] 30 := by
    have := Blk.new ((w.alloc (.cells #[.int .i64 98, .int .i64 100] 42)).alloc (.cells #[.int .i64 4, .int .i64 0, .bool false, .slice (some ⟨w.heap.size, 0, none⟩) 1 1, .int .i64 0, .int .i64 0, .slice none 0 0] 30)) #[.int .i64 2, .int .i64 97, .bool false, .slice none 0 0, .int .i64 0, .int .i64 0, .slice none 0 0, .int .i64 7, .int .i64 0, .bool false, .slice none 0 0, .int .i64 2, .int .i64 (-1), .slice (some ⟨w.heap.size + 1, 0, none⟩) 1 1] 30
    rw [World.size_alloc, World.size_alloc] at this
    exact this
  have t0 : TrV (exW w) (fun _ => True) (trS false [(98, 100)]) #[.int .i64 4, .int .i64 0, .bool false, .slice (some ⟨w.heap.size, 0, none⟩) 1 1, .int .i64 0, .int .i64 0, .slice none 0 0] :=
    TrV.mk (kids := []) (by simp) (rg_one b0 trivial) (Tr.Ins.nil _ _ none 0)
  have t1 : TrV (exW w) (fun _ => True) (trR 2 (-1) (trS false [(98, 100)])) #[.int .i64 7, .int .i64 0, .bool false, .slice none 0 0, .int .i64 2, .int .i64 (-1), .slice (some ⟨w.heap.size + 1, 0, none⟩) 1 1] :=
    TrV.mk (kids := [trS false [(98, 100)]]) (by simp) (RgIn.nil _ _ none 0) (ins_one b1 trivial t0 (seven_cases rfl rfl rfl rfl rfl rfl rfl))
  have t2 : TrV (exW w) (fun _ => True) (trC 97) #[.int .i64 2, .int .i64 97, .bool false, .slice none 0 0, .int .i64 0, .int .i64 0, .slice none 0 0] := TrV.leaf _ _ 2 97 false 0 0
  exact TrV.mk (kids := [trC 97, trR 2 (-1) (trS false [(98, 100)])]) (by simp) (RgIn.nil _ _ none 0) (ins_two b2 trivial t2 t1 (seven_cases rfl rfl rfl rfl rfl rfl rfl) (seven_cases rfl rfl rfl rfl rfl rfl rfl))
set_option maxRecDepth 100000 in
set_option maxHeartbeats 1500000 in
theorem rxFixed_any {W : World} (hE : REnv W) : Calls Tryd.prog 7 #[] W fun e w' => e = .returned (.bool true) ∧ Below W.heap.size W w' := by
  have C1 := rx_parse (s := ⟨#[97, 124, 91, 98, 45, 100, 93, 123, 50, 44, 125]⟩) (by decide) false hE
  rw [ex_one] at C1
  have C1 := Lib.hid C1
  have C2 := Lib.hid (fun (w : World) (hb : Below W.heap.size W w) => show Calls Tryd.prog 8 #[.string ⟨#[97, 40, 98]⟩, .bool false] w (PrsOut w (trZ, 1, 90)) from ex_two ▸ rx_parse (s := ⟨#[97, 40, 98]⟩) (by decide) false (hE.kept hb))
  clear hE
  go_enter Tryd.func7, Tryd.ntmps7
  go_wp2_with fail
  refine C1.out.mono ?_
  rintro e w1 ⟨vs, rfl, ht, hb1⟩
  obtain ⟨sv, A, cap, rfl, _, hR, _⟩ := (show TrV w1 _ (.mk 6 0 false [] 0 0 [trC 97, trR 2 (-1) (trS false [(98, 100)])]) vs from ht).open
  obtain ⟨A3, c3, rfl⟩ := rx_store_set hR
  simp only [List.length_cons, List.length_nil, Nat.zero_add, Nat.reduceAdd] at ht
  have hs1 := hb1.size
  have F1 := Blk.new w1 #[.int .i64 6, .int .i64 0, .bool false, .slice A3 0 c3, .int .i64 0, .int .i64 0, .slice A 2 cap] 30
  have hb2 := hb1.alloc hs1 (.cells #[.int .i64 6, .int .i64 0, .bool false, .slice A3 0 c3, .int .i64 0, .int .i64 0, .slice A 2 cap] 30)
  have hbx := (Below.refl w1.heap.size w1).alloc (Nat.le_refl _) (.cells #[.int .i64 6, .int .i64 0, .bool false, .slice A3 0 c3, .int .i64 0, .int .i64 0, .slice A 2 cap] 30)
  have HT := Lib.hid ht
  have HF := Lib.hid F1
  have HB := Lib.hid hb2
  have HBX := Lib.hid hbx
  simp only [List.length_cons, List.length_nil, Nat.zero_add, Nat.reduceAdd]
  clear ht hR F1 hb2 hbx C1 hb1
  go_wp2_with fail
  refine (C2.out _ HB.out).mono ?_
  rintro e w2 ⟨us, rfl, hz, hb2⟩
  obtain ⟨sv2, A2, cap2, rfl, _, hR2, _⟩ := (show TrV w2 _ (.mk 0 0 false [] 0 0 []) us from hz).open
  obtain ⟨A4, c4, rfl⟩ := rx_store_set hR2
  simp only [List.length_nil]
  have hsz := HB.out.size
  have hb3 := (HBX.out.trans (hb2.mono HBX.out.size)).alloc (HBX.out.trans (hb2.mono HBX.out.size)).size (.cells #[.int .i64 0, .int .i64 0, .bool false, .slice A4 0 c4, .int .i64 0, .int .i64 0, .slice A2 0 cap2] 30)
  have hb4 := (HB.out.trans (hb2.mono hsz)).alloc (HB.out.trans (hb2.mono hsz)).size (.cells #[.int .i64 0, .int .i64 0, .bool false, .slice A4 0 c4, .int .i64 0, .int .i64 0, .slice A2 0 cap2] 30)
  have F2 := (HF.out.below hb2 HF.out.lt).alloc (.cells #[.int .i64 0, .int .i64 0, .bool false, .slice A4 0 c4, .int .i64 0, .int .i64 0, .slice A2 0 cap2] 30)
  obtain ⟨V, hV⟩ : ∃ V, w2.alloc (.cells #[.int .i64 0, .int .i64 0, .bool false, .slice A4 0 c4, .int .i64 0, .int .i64 0, .slice A2 0 cap2] 30) = V := ⟨_, rfl⟩
  rw [hV] at hb3 hb4 F2
  have HB3 := Lib.hid hb3
  have HB4 := Lib.hid hb4
  obtain ⟨⟨x0, x1, x2, x3, x4, x5, x6⟩, _⟩ := F2.seven
  clear hz hR2 hb2 F2 hb3 hb4 C2
  go_wp2_with fail
  clear hV x0 x1 x2 x3 x4 x5 x6
  have hbx := (((Below.refl V.heap.size V).alloc (Nat.le_refl _) (.cells #[.int .i64 98, .int .i64 100] 42)).alloc (by simp) (.cells #[.int .i64 4, .int .i64 0, .bool false, .slice (some ⟨V.heap.size, 0, none⟩) 1 1, .int .i64 0, .int .i64 0, .slice none 0 0] 30)).alloc (by simp; omega) (.cells #[.int .i64 2, .int .i64 97, .bool false, .slice none 0 0, .int .i64 0, .int .i64 0, .slice none 0 0, .int .i64 7, .int .i64 0, .bool false, .slice none 0 0, .int .i64 2, .int .i64 (-1), .slice (some ⟨V.heap.size + 1, 0, none⟩) 1 1] 30)
  have hbf : Below w1.heap.size w1 (exW V) := HB3.out.trans (hbx.mono HB3.out.size)
  have hbg : Below W.heap.size W (exW V) := HB4.out.trans (hbx.mono HB4.out.size)
  have CS := rx_same (HT.out.kept (w' := exW V) (P' := fun _ => True) (fun g hg _ => ⟨trivial, hbf.block g hg⟩)) (exTree V)
  refine CS.mono ?_
  rintro e w4 ⟨rfl, hq⟩
  have HBf := Lib.hid (hbg.trans (hq.mono hbg.size))
  clear CS hq hbx hbf hbg
  go_wp2_with fail
  go_ret
  exact ⟨rfl, HBf.out⟩
end Go.Proofs.YtmfcofiihopbfaaDoor

namespace Go.Proofs.YtmfcofiihopbfaaDoor

def kindT : Tr → Int
  | .mk k _ _ _ _ _ _ => k
def kidsT : Tr → List Tr
  | .mk _ _ _ _ _ _ l => l
/-- A choice has two kids at least. -/
def Alt2 (t : Tr) : Prop := kindT t = 6 → 2 ≤ (kidsT t).length
def flatT (t : Tr) : List Tr := if kindT t = 6 ∧ kidsT t ≠ [] then kidsT t else [t]
theorem alt2_of {t : Tr} (h : kindT t ≠ 6) : Alt2 t := fun e => absurd e h
theorem alt2_tog5 {l : List Tr} (h : ∀ t ∈ l, Alt2 t) : Alt2 (togF 5 l) := by
  match l, h with
  | [], _ => exact alt2_of (by decide)
  | [t], h => exact h t (by simp)
  | _ :: _ :: _, _ => exact alt2_of (by show (5 : Int) ≠ 6; decide)
theorem alt2_tog6 {l : List Tr} (h : ∀ t ∈ l, Alt2 t) : Alt2 (togF 6 l) := by
  match l, h with
  | [], _ => exact alt2_of (by decide)
  | [t], h => exact h t (by simp)
  | a :: b :: l, _ => exact fun _ => by show 2 ≤ (a :: b :: l).length; simp
theorem mrk_kind {s : ByteArray} {b : Bool} {a i k : Nat} {t : Tr} (h : mrkF s b a i = .ok t k) : Alt2 t := by
  unfold mrkF at h
  have K : ∀ n : Int, n ≠ 6 → Alt2 (trK n) := fun n hn => alt2_of hn
  have S : ∀ n l, Alt2 (trS n l) := fun n l => alt2_of (by show (4 : Int) ≠ 6; decide)
  have C : ∀ n, Alt2 (trC n) := fun n => alt2_of (by show (2 : Int) ≠ 6; decide)
  rcases ite_or h with ⟨_, h⟩ | ⟨_, h⟩
  · cases h
  rcases ite_or h with ⟨_, h⟩ | ⟨_, h⟩
  · cases h; exact K _ (by decide)
  rcases ite_or h with ⟨_, h⟩ | ⟨_, h⟩
  · cases h; exact K _ (by decide)
  rcases ite_or h with ⟨_, h⟩ | ⟨_, h⟩
  · cases h; exact K _ (by decide)
  rcases ite_or h with ⟨_, h⟩ | ⟨_, h⟩
  · cases h; exact K _ (by decide)
  rcases ite_or h with ⟨_, h⟩ | ⟨_, h⟩
  · cases h; exact K _ (by decide)
  rcases ite_or h with ⟨_, h⟩ | ⟨_, h⟩
  · cases h; exact K _ (by decide)
  rcases ite_or h with ⟨_, h⟩ | ⟨_, h⟩
  · cases h; exact S _ _
  rcases ite_or h with ⟨_, h⟩ | ⟨_, h⟩
  · cases h; exact S _ _
  rcases ite_or h with ⟨_, h⟩ | ⟨_, h⟩
  · cases h; exact S _ _
  rcases ite_or h with ⟨_, h⟩ | ⟨_, h⟩
  · cases h; exact S _ _
  split at h
  · cases h
  · cases h; exact C _
def GrpAlt (grp : Nat → Nat → Rs Tr) : Prop := ∀ a i k t, grp a i = .ok t k → Alt2 t
theorem node_alt {grp : Nat → Nat → Rs Tr} {s : ByteArray} {b : Bool} {i k : Nat} {t : Tr} (hg : GrpAlt grp) (h : nodeF grp s b i = .ok t k) : Alt2 t := by
  unfold nodeF at h
  rcases ite_or h with ⟨_, h⟩ | ⟨_, h⟩
  · exact hg _ _ _ _ h
  rcases ite_or h with ⟨_, h⟩ | ⟨_, h⟩
  · unfold brkF at h
    split at h
    · cases h
    · cases h
      exact alt2_of (by show (4 : Int) ≠ 6; decide)
  rcases ite_or h with ⟨_, h⟩ | ⟨_, h⟩
  · exact mrk_kind h
  rcases ite_or h with ⟨_, h⟩ | ⟨_, h⟩
  · cases h; exact alt2_of (by show (3 : Int) ≠ 6; decide)
  rcases ite_or h with ⟨_, h⟩ | ⟨_, h⟩
  · cases h; exact alt2_of (by show (8 : Int) ≠ 6; decide)
  rcases ite_or h with ⟨_, h⟩ | ⟨_, h⟩
  · cases h; exact alt2_of (by show (9 : Int) ≠ 6; decide)
  cases h
  exact alt2_of (by show (2 : Int) ≠ 6; decide)
theorem row_alt {grp : Nat → Nat → Rs Tr} {s : ByteArray} {b : Bool} (hg : GrpAlt grp) : ∀ {f i k : Nat} {kids : List Tr} {t : Tr}, (∀ t ∈ kids, Alt2 t) → rowF grp s b f i kids = .ok t k → Alt2 t
  | 0, _, _, _, _, _, h => by rw [rowF] at h; cases h
  | f + 1, i, k, kids, t, hK, h => by
    by_cases he : rowE s i
    · rw [row_end he] at h
      cases h
      exact alt2_tog5 hK
    have nd : ∀ kids, (∀ t ∈ kids, Alt2 t) → (kids = [] ∨ repF s i = none) → rowF grp s b (f + 1) i kids = .ok t k → Alt2 t := fun kids hK hr h => by
      cases hn : nodeF grp s b i with
      | bad k' e => rw [row_nodebad he hr hn] at h; cases h
      | ok t' k' =>
        rw [row_node he hr hn] at h
        refine row_alt hg (fun u hu => ?_) h
        rw [List.mem_append, List.mem_singleton] at hu
        rcases hu with hu | rfl
        · exact hK u hu
        · exact node_alt hg hn
    rcases List.eq_nil_or_concat kids with rfl | ⟨ks, u, rfl⟩
    · exact nd _ hK (.inl rfl) h
    rw [List.concat_eq_append] at h hK
    cases hr : repF s i with
    | none => exact nd _ hK (.inr hr) h
    | some q =>
      cases q with
      | bad k' e => rw [row_repbad he hr] at h; cases h
      | ok r k' =>
        rw [row_rep he hr] at h
        refine row_alt hg (fun v hv => ?_) h
        rw [List.mem_append, List.mem_singleton] at hv
        rcases hv with hv | rfl
        · exact hK v (List.mem_append_left _ hv)
        · exact alt2_of (by show (7 : Int) ≠ 6; decide)
theorem ch_alt {grp : Nat → Nat → Rs Tr} {s : ByteArray} {b : Bool} (hg : GrpAlt grp) : ∀ {f i k : Nat} {kids : List Tr} {t : Tr}, (∀ t ∈ kids, Alt2 t) → chF grp s b f i kids = .ok t k → Alt2 t
  | 0, _, _, _, _, _, h => by rw [chF] at h; cases h
  | f + 1, i, k, kids, t, hK, h => by
    rw [chF] at h
    split at h
    · cases h
    rename_i t' k' hr
    have h1 : ∀ u ∈ kids ++ [t'], Alt2 u := fun u hu => by
      rw [List.mem_append, List.mem_singleton] at hu
      rcases hu with hu | rfl
      · exact hK u hu
      · exact row_alt hg (fun _ h => by simp at h) hr
    split at h
    · exact ch_alt hg h1 h
    · cases h
      exact alt2_tog6 h1
theorem grp_alt (s : ByteArray) (b : Bool) : ∀ d, GrpAlt (grpF s b d)
  | 0, _, _, _, _, h => by rw [grpF] at h; cases h
  | d + 1, a, i, k, t, h => by
    rw [grpF] at h
    split at h
    · cases h
    rename_i t' k' hr
    split at h
    · cases h
      exact ch_alt (grp_alt s b d) (fun _ h => by simp at h) hr
    · cases h
theorem parse_alt {s : ByteArray} {x : Tr} {p : Nat} (h : rxParse s false = (x, p, 0)) : Alt2 x :=
  ch_alt (grp_alt s false 40) (fun _ h => by simp at h) (parse_open h).1
theorem flat_tog {us : List Tr} (hn : us ≠ []) (h : Alt2 (togF 6 us)) : flatT (togF 6 us) = us ∨ us.length < (flatT (togF 6 us)).length := by
  match us, hn, h with
  | [], hn, _ => exact absurd rfl hn
  | [t], _, h =>
    rw [tog_one] at h ⊢
    unfold flatT
    split
    · rename_i hk
      right
      have := h hk.1
      simp only [List.length_cons, List.length_nil]
      omega
    · exact .inl rfl
  | a :: b :: l, _, _ =>
    rw [tog_two 6 _ (by simp)]
    left
    unfold flatT
    rw [if_pos ⟨rfl, by show a :: b :: l ≠ []; simp⟩]
    rfl
theorem flats {us bs : List Tr} (h1 : us ≠ []) (h2 : bs ≠ []) (a1 : Alt2 (togF 6 us)) (a2 : Alt2 (togF 6 bs)) :
    flatT (togF 6 us) ++ flatT (togF 6 bs) = us ++ bs ∨ (us ++ bs).length < (flatT (togF 6 us) ++ flatT (togF 6 bs)).length := by
  have p := flat_tog h1 a1
  have q := flat_tog h2 a2
  simp only [List.length_append]
  rcases p with p | p <;> rcases q with q | q
  · left; rw [p, q]
  · right; rw [p]; omega
  · right; rw [q]; omega
  · right; omega
end Go.Proofs.YtmfcofiihopbfaaDoor

namespace Go.Proofs.YtmfcofiihopbfaaDoor
open Go.RowKit Go.Lib

/-- The nodes gathered so far: a row of its own, whose trees lie below it. -/
def LKs (w : World) (n : Nat) (v : Value) (ks : List Tr) : Prop :=
  ∃ xs, w.ownsRow n 30 7 v ks.length xs ∧ ∀ (j : Nat) (t : Tr), ks[j]? = some t → t.In w (fun g => g < n) (rdL xs (j * 7))
theorem LKs.nil (w : World) (n : Nat) : LKs w n (.slice none 0 0) [] := ⟨[], World.ownsRow_nil _ _ _ _, fun j t h => by simp at h⟩
theorem LKs.slice {w : World} {n : Nat} {v : Value} {ks : List Tr} (h : LKs w n v ks) : ∃ A cap, v = .slice A ks.length cap := by
  obtain ⟨xs, ⟨_, h⟩, _⟩ := h
  rcases h with ⟨rfl, h0⟩ | ⟨g, cap, cur, rfl, _⟩
  · exact ⟨none, 0, by rw [h0]⟩
  · exact ⟨_, _, rfl⟩
theorem LKs.app {w w' : World} {n : Nat} {v' : Value} {ks us : List Tr} {xs ys : List Value} (hl : xs.length = ks.length * 7) (hx : ∀ (j : Nat) (t : Tr), ks[j]? = some t → t.In w (fun g => g < n) (rdL xs (j * 7))) (_hy : ys.length = us.length * 7) (hu : ∀ (j : Nat) (t : Tr), us[j]? = some t → t.In w (fun g => g < n) (rdL ys (j * 7)))
    (hk : ∀ g, g < n → w'.heap[g]? = w.heap[g]?) (h2 : w'.ownsRow n 30 7 v' (ks.length + us.length) (xs ++ ys)) : LKs w' n v' (ks ++ us) := by
  refine ⟨xs ++ ys, by rw [List.length_append]; exact h2, fun j t hj => ?_⟩
  by_cases hlt : j < ks.length
  · rw [List.getElem?_append_left hlt] at hj
    refine ((hx j t hj).kept (fun g _ hp => ⟨hp, hk g hp⟩)).congr fun i hi => ?_
    rw [rdL, rdL, List.getElem?_append_left (by omega)]
  · rw [List.getElem?_append_right (by omega)] at hj
    refine ((hu _ t hj).kept (fun g _ hp => ⟨hp, hk g hp⟩)).congr fun i hi => ?_
    rw [rdL, rdL, List.getElem?_append_right (by omega), show j * 7 + i - xs.length = (j - ks.length) * 7 + i by rw [hl, Nat.sub_mul]; omega]
theorem LKs.ins {w : World} {n : Nat} {A : Option Addr} {cap : Nat} {ts : List Tr} (h : LKs w n (.slice A ts.length cap) ts) : Tr.Ins w (fun _ => True) ts A 0 := by
  obtain ⟨xs, ho, hx⟩ := h
  refine Tr.Ins.of fun j t hj => ?_
  have hjl : j < ts.length := (List.getElem?_eq_some_iff.1 hj).1
  have hlen := ho.1
  rcases ho.2 with ⟨e, h0⟩ | ⟨g, cap', cur, e, hg, _⟩
  · omega
  · injection e with e1 e2 e3
    subst e1
    refine ⟨g, rfl, trivial, ?_⟩
    refine ((hx j t hj).kept (fun g _ hp => ⟨trivial, rfl⟩)).congr fun i hi => ?_
    have hb : j * 7 + i < xs.length := by omega
    rw [rdL, List.getElem?_eq_getElem hb]
    have := ho.cells rfl (j * 7 + i) _ (List.getElem?_eq_getElem hb)
    rw [Addr.add_lit] at this
    simpa using this
theorem LKs.below {w w' : World} {n : Nat} {v : Value} {ks : List Tr} (h : LKs w n v ks) (hb : Below w.heap.size w w') (_hn : n ≤ w.heap.size) : LKs w' n v ks := by
  obtain ⟨xs, ho, hx⟩ := h
  refine ⟨xs, ⟨ho.1, ?_⟩, fun j t hj => (hx j t hj).kept (fun g hg hp => ⟨hp, hb.block g hg⟩)⟩
  rcases ho.2 with h0 | ⟨g, cap, cur, e, hg, hr, hz⟩
  · exact .inl h0
  · exact .inr ⟨g, cap, cur, e, hg, (hb.block g (Array.getElem?_eq_some_iff.1 hr).1).trans hr, hz⟩
theorem ins_cell {w : World} {P : Nat → Prop} {us : List Tr} {g : Nat} (h : Tr.Ins w P us (some ⟨g, 0, none⟩) 0) (j : Nat) (hj : j < us.length * 7) : ∃ u, w.cell? ⟨g, j, none⟩ = some u ∧ u.oneCell' = true := by
  have hq : j / 7 < us.length := by omega
  obtain ⟨g', kind, code, neg, A3, n3, c3, lo, hi, A2, n2, c2, hA, ⟨h0, h1, h2, h3, h4, h5, h6⟩, _⟩ := TrV.at h (j / 7) _ (List.getElem?_eq_getElem hq)
  obtain rfl : g = g' := by
    have := Option.some.inj hA
    injection this
  have : j = j / 7 * 7 ∨ j = j / 7 * 7 + 1 ∨ j = j / 7 * 7 + 2 ∨ j = j / 7 * 7 + 3 ∨ j = j / 7 * 7 + 4 ∨ j = j / 7 * 7 + 5 ∨ j = j / 7 * 7 + 6 := by omega
  rcases this with e | e | e | e | e | e | e
  · rw [e]; exact ⟨_, h0, rfl⟩
  · rw [e]; exact ⟨_, h1, rfl⟩
  · rw [e]; exact ⟨_, h2, rfl⟩
  · rw [e]; exact ⟨_, h3, rfl⟩
  · rw [e]; exact ⟨_, h4, rfl⟩
  · rw [e]; exact ⟨_, h5, rfl⟩
  · rw [e]; exact ⟨_, h6, rfl⟩
theorem ins_vals {w : World} {P : Nat → Prop} {us : List Tr} {A : Option Addr} (h : Tr.Ins w P us A 0) (hn : us ≠ []) :
    ∃ g ys, A = some ⟨g, 0, none⟩ ∧ P g ∧ ys.length = us.length * 7 ∧ (∀ j u, ys[j]? = some u → w.cell? ((⟨g, 0, none⟩ : Addr).add j) = some u) ∧ (∀ u ∈ ys, u.oneCell' = true) ∧ ∀ (j : Nat) (t : Tr), us[j]? = some t → t.In w P (rdL ys (j * 7)) := by
  have hl : 0 < us.length := List.length_pos_iff.2 hn
  obtain ⟨g, rfl, hp, _⟩ := h.at 0 _ (List.getElem?_eq_getElem hl)
  have hy : ∀ j, j < us.length * 7 → ((List.range (us.length * 7)).map fun j => (w.cell? ⟨g, j, none⟩).getD undef)[j]? = w.cell? ⟨g, j, none⟩ := fun j hj => by
    obtain ⟨u, hu, _⟩ := ins_cell h j hj
    rw [List.getElem?_map, List.getElem?_range hj, hu]
    simp [hu]
  refine ⟨g, (List.range (us.length * 7)).map fun j => (w.cell? ⟨g, j, none⟩).getD undef, rfl, hp, by simp, fun j u hu => ?_, fun u hu => ?_, fun j t hj => ?_⟩
  · have hj : j < us.length * 7 := by
      have := (List.getElem?_eq_some_iff.1 hu).1
      simpa using this
    rw [hy j hj] at hu
    rw [Addr.add_lit]
    simpa using hu
  · rw [List.mem_map] at hu
    obtain ⟨j, hj, rfl⟩ := hu
    obtain ⟨u, hu, h1⟩ := ins_cell h j (List.mem_range.1 hj)
    rw [hu]
    exact h1
  · have hjl : j < us.length := (List.getElem?_eq_some_iff.1 hj).1
    obtain ⟨g', hA, _, ht⟩ := h.at j t hj
    obtain rfl : g = g' := by
      have := Option.some.inj hA
      injection this
    refine ht.congr fun i hi => ?_
    rw [rdL, hy (j * 7 + i) (by omega), Nat.zero_add]
set_option maxRecDepth 100000 in
set_option maxHeartbeats 1000000 in
/-- Same, of two choices of unlike many. -/
theorem rx_same_no2 {W : World} {A B C : Option Addr} {n m cap bap c3 : Nat} (h : n ≠ m) (_hn : n ≤ 1000000) (_hm : m ≤ 1000000) : Calls Tryd.prog 9 #[.agg #[.int .i64 6, .int .i64 0, .bool false, .slice C 0 c3, .int .i64 0, .int .i64 0, .slice A n cap], .agg #[.int .i64 6, .int .i64 0, .bool false, .slice none 0 0, .int .i64 0, .int .i64 0, .slice B m bap]] W fun e w' => e = .returned (.bool false) ∧ Below W.heap.size W w' := by
  have hb1 := (Below.refl W.heap.size W).alloc (Nat.le_refl _) (.cells #[.int .i64 6, .int .i64 0, .bool false, .slice C 0 c3, .int .i64 0, .int .i64 0, .slice A n cap] 30)
  have hb2 := hb1.alloc hb1.size (.cells #[.int .i64 6, .int .i64 0, .bool false, .slice none 0 0, .int .i64 0, .int .i64 0, .slice B m bap] 30)
  have HB := Lib.hid hb2
  have hne : ((n : Int) != (m : Int)) = true := by rw [bne_iff_ne]; omega
  clear hb1 hb2 h
  go_enter Tryd.func9, Tryd.ntmps9
  go_wp2_with fail
  go_ret
  exact ⟨rfl, HB.out⟩
end Go.Proofs.YtmfcofiihopbfaaDoor
