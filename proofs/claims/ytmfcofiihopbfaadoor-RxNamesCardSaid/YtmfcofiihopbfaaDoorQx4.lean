/- Several texts in one (Contracts of layer 9: a row of nodes (printed by tools/gen_row.py); Contracts of layer 9: a choice, a group (printed by tools/gen_choice.py); Contracts of layer 9: groups within groups; Contracts of layer 9: the deferred closure of Parse; Contracts of layer 9: weights, and when two trees are the same; Contracts of layer 9: the whole of a pattern; Contracts of layer 9: Parse). -/
import Derived.Recover
import Derived.Defers
import Derived.Test.YtmfcofiihopbfaaDoorQx3
namespace Go.Proofs.YtmfcofiihopbfaaDoor
open Go.RowKit Go.Lib

theorem info_rx : (Tryd.prog.info? 30).map (fun i => (i.zero, i.size, i.bytes)) = some (some (.agg zero7), 7, 88) := by kernel_rfl
set_option maxRecDepth 100000 in
set_option maxHeartbeats 4000000 in
theorem rx_row {W : World} {pb d : Nat} {s : ByteArray} {b : Bool} {i n : Nat} (hg : GrpOk s b d) (hn : n + d = 40) (h : Prs W pb s b i n) (hi : i ≤ s.size) (hs : s.size ≤ 1024) (hE : Env W pb) :
    Calls Tryd.prog 18 #[pbP pb] W (RxOut (gTr W.heap.size) pb s b n W (rowF (grpF s b d) s b (s.size + 1) i [])) := by
  have hlt := Blk.lt h
  have F0 := Blk.new W zero7 30
  have S0 := (Stp.refl h).alloc (.cells zero7 30)
  have hE0 := hE.step S0 hlt
  have hsz0 : (W.alloc (.cells zero7 30)).heap.size = W.heap.size + 1 := by simp
  obtain ⟨i0, hi0, hz0, hz1, hz2⟩ := info_parts info_rx
  have HI := Lib.hid (And.intro hi0 (And.intro hz0 (And.intro hz1 hz2)))
  obtain ⟨W0, hW0⟩ : ∃ W0, W.alloc (.cells zero7 30) = W0 := ⟨_, rfl⟩
  rw [hW0] at F0 S0 hE0 hsz0
  have hlt0 : pb < W0.heap.size := by omega
  have hsA : W.heap.size < W0.heap.size := by omega
  have hneB : pb ≠ W.heap.size := by omega
  clear hsz0
  have HS0 := Lib.hid S0
  have HKF := Lib.hid (fun (w : World) (j : Nat) (hS : Stp pb s b j n W0 w) => show Blk w W.heap.size zero7 30 from ⟨(hS.off.block _ F0.lt (Ne.symm hneB) (Ne.symm hneB)).trans F0.row⟩)
  have HE := Lib.hid (fun (w : World) (j : Nat) (hS : Stp pb s b j n W0 w) => hE0.step hS hlt0)
  have HG := Lib.hid hg
  have GI := Lib.hid (grp_in s b d)
  obtain ⟨R, hR⟩ : ∃ R, rowF (grpF s b d) s b (s.size + 1) i [] = R := ⟨_, rfl⟩
  have HR := Lib.hid hR
  rw [hR]
  clear h hE hE0 S0 F0 hi0 hz0 hz1 hz2 hR hg
  go_enter Tryd.func18, Tryd.ntmps18
  go_wp2_with fail
  clear hW0
  go_loopw [3] (fun sv wr => ∃ (v : Value) (j f : Nat) (kids : List Tr), v = sv ∧ Stp pb s b j n W0 wr ∧ j ≤ s.size ∧ Kds wr W0.heap.size v kids ∧ kids.length ≤ j ∧ rowF (grpF s b d) s b f j kids = R ∧ s.size - j < f) (fun _ wr => s.size - (match wr.cell? ⟨pb, 2, none⟩ with | some v => (RowKit.intOf v).toNat | none => 0))
  case atStart => exact ⟨_, i, s.size + 1, [], rfl, Stp.refl HS0.out.prs, hi, Kds.nil _ _, by simp, HR.out, by omega⟩
  case round =>
    obtain ⟨v, j, f, kids, rfl, hS, hj, hK, hkl, hR2, hf⟩ := hrel
    have HSr := Lib.hid hS
    obtain ⟨f1, rfl⟩ : ∃ g, f = g + 1 := ⟨f - 1, by omega⟩
    have q2r := hS.prs.four.2.2.1
    obtain ⟨p1, e1⟩ : ∃ p, st1 s j 124 = p := ⟨_, rfl⟩
    obtain ⟨p2, e2⟩ : ∃ p, st1 s j 41 = p := ⟨_, rfl⟩
    have CT1 := Lib.hid (fun w (hS : Stp pb s b j n W0 w) => rx_stands1 hS.prs hj 124 p1 e1)
    have CT2 := Lib.hid (fun w (hS : Stp pb s b j n W0 w) => rx_stands1 hS.prs hj 41 p2 e2)
    have CTo := Lib.hid (fun (w : World) (hS : Stp pb s b j n W0 w) (A : Option Addr) (cp : Nat) (hI : Tr.Ins w (fun g => W0.heap.size ≤ g) kids A 0) => rx_together hI (by omega) 5 cp)
    obtain ⟨A, cp, hv⟩ := hK.slice
    obtain ⟨xs, ho, hx⟩ := hK
    have KI : Kds wr W0.heap.size v kids := ⟨xs, ho, hx⟩
    have CE := fun (p : Bool) (hp : ((j : Int) == (s.size : Int)) = p) => rx_ended hS.prs p hp
    have HKW := Lib.hid (fun (w : World) (o : Off2 pb pb wr w) => KI.kept (w' := w) (fun g hg hp => o.block g hg (by omega) (by omega)))
    have HOW := Lib.hid (fun (w : World) (o : Off2 pb pb wr w) => own_off ho o hlt0)
    have HXW := Lib.hid (fun (w : World) (o : Off2 pb pb wr w) (jj : Nat) (t : Tr) (ht : kids[jj]? = some t) => (hx jj t ht).kept (w' := w) (P' := fun g => W0.heap.size ≤ g ∧ some g ≠ v.ownBlock) (fun g hg hp => ⟨hp, o.block g hg (by omega) (by omega)⟩))
    by_cases hje : j = s.size
    · have hend : rowE s j := .inl hje
      have CE := Lib.hid (CE true (by rw [size_beq, decide_eq_true_eq]; exact hje))
      clear CT1 CT2
      have HRE := Lib.hid (show R = .ok (togF 5 kids) j from hR2.symm.trans (row_end hend))
      subst hv
      clear ho hx KI hR2 hS q2r hend HOW HXW
      go_wp2_with fail
      refine CE.out.mono ?_
      rintro e wa ⟨rfl, hSa⟩
      have Ha := Lib.hid (HSr.out.trans hSa)
      have Oa := Lib.hid hSa.off
      clear hSa CE
      go_wp2_with fail
      refine (CTo.out _ Ha.out A cp ((HKW.out _ Oa.out).ins)).mono ?_
      rintro e w4 ⟨vs, rfl, ht, hb⟩
      obtain ⟨kind, code, neg, A3, n3, c3, lo, hi', A2, n2, c2, rfl⟩ := ht.form
      have S4 := Ha.out.below hb
      have F2 := HKF.out _ _ S4
      have FIN := Lib.hid (node_put (HS0.out.trans S4) F2 ht hsA)
      clear ht hb S4 CTo HKW
      obtain ⟨z7, _⟩ := rx_end7 (.int .i64 kind) (.int .i64 code) (.bool neg) (.slice A3 n3 c3) (.int .i64 lo) (.int .i64 hi') (.slice A2 n2 c2) F2
      obtain ⟨⟨y0, y1, y2, y3, y4, y5, y6⟩, _⟩ := z7.seven
      obtain ⟨⟨k0, k1, k2, k3, k4, k5, k6⟩, f0, f1', f2, f3, f4, f5, f6⟩ := F2.seven
      unfold put7 at y0 y1 y2 y3 y4 y5 y6
      clear F2 z7
      go_wp2_with fail
      rw [HRE.out]
      exact bodyPost_ret (v := .agg #[.int .i64 kind, .int .i64 code, .bool neg, .slice A3 n3 c3, .int .i64 lo, .int .i64 hi', .slice A2 n2 c2]) (by simp [results, Tryd.results18, go_sem, y0, y1, y2, y3, y4, y5, y6]) rfl FIN.out
    have CE := Lib.hid (CE false (by rw [size_beq, decide_eq_false_iff_not]; exact hje))
    cases p1 with
    | true =>
      have hend : rowE s j := .inr (.inl e1)
      clear CT2
      have HRE := Lib.hid (show R = .ok (togF 5 kids) j from hR2.symm.trans (row_end hend))
      subst hv
      clear ho hx KI hR2 hS q2r hend HOW HXW
      go_wp2_with fail
      refine CE.out.mono ?_
      rintro e wa ⟨rfl, hSa⟩
      have Ha := Lib.hid (HSr.out.trans hSa)
      have Oa := Lib.hid hSa.off
      clear hSa CE
      go_wp2_with fail
      refine (CT1.out _ Ha.out).mono ?_
      rintro e wb ⟨rfl, hSb⟩
      have Hb := Lib.hid (Ha.out.trans hSb)
      have Ob := Lib.hid (Oa.out.trans hSb.off)
      clear hSb CT1
      go_wp2_with fail
      refine (CTo.out _ Hb.out A cp ((HKW.out _ Ob.out).ins)).mono ?_
      rintro e w4 ⟨vs, rfl, ht, hb⟩
      obtain ⟨kind, code, neg, A3, n3, c3, lo, hi', A2, n2, c2, rfl⟩ := ht.form
      have S4 := Hb.out.below hb
      have F2 := HKF.out _ _ S4
      have FIN := Lib.hid (node_put (HS0.out.trans S4) F2 ht hsA)
      clear ht hb S4 CTo HKW
      obtain ⟨z7, _⟩ := rx_end7 (.int .i64 kind) (.int .i64 code) (.bool neg) (.slice A3 n3 c3) (.int .i64 lo) (.int .i64 hi') (.slice A2 n2 c2) F2
      obtain ⟨⟨y0, y1, y2, y3, y4, y5, y6⟩, _⟩ := z7.seven
      obtain ⟨⟨k0, k1, k2, k3, k4, k5, k6⟩, f0, f1', f2, f3, f4, f5, f6⟩ := F2.seven
      unfold put7 at y0 y1 y2 y3 y4 y5 y6
      clear F2 z7
      go_wp2_with fail
      rw [HRE.out]
      exact bodyPost_ret (v := .agg #[.int .i64 kind, .int .i64 code, .bool neg, .slice A3 n3 c3, .int .i64 lo, .int .i64 hi', .slice A2 n2 c2]) (by simp [results, Tryd.results18, go_sem, y0, y1, y2, y3, y4, y5, y6]) rfl FIN.out
    | false =>
      cases p2 with
      | true =>
        have hend : rowE s j := .inr (.inr e2)
        have HRE := Lib.hid (show R = .ok (togF 5 kids) j from hR2.symm.trans (row_end hend))
        subst hv
        clear ho hx KI hR2 hS q2r hend HOW HXW
        go_wp2_with fail
        refine CE.out.mono ?_
        rintro e wa ⟨rfl, hSa⟩
        have Ha := Lib.hid (HSr.out.trans hSa)
        have Oa := Lib.hid hSa.off
        clear hSa CE
        go_wp2_with fail
        refine (CT1.out _ Ha.out).mono ?_
        rintro e wb ⟨rfl, hSb⟩
        have Hb := Lib.hid (Ha.out.trans hSb)
        have Ob := Lib.hid (Oa.out.trans hSb.off)
        clear hSb CT1
        go_wp2_with fail
        refine (CT2.out _ Hb.out).mono ?_
        rintro e wc ⟨rfl, hSc⟩
        have Hc := Lib.hid (Hb.out.trans hSc)
        have Oc := Lib.hid (Ob.out.trans hSc.off)
        clear hSc CT2
        go_wp2_with fail
        refine (CTo.out _ Hc.out A cp ((HKW.out _ Oc.out).ins)).mono ?_
        rintro e w4 ⟨vs, rfl, ht, hb⟩
        obtain ⟨kind, code, neg, A3, n3, c3, lo, hi', A2, n2, c2, rfl⟩ := ht.form
        have S4 := Hc.out.below hb
        have F2 := HKF.out _ _ S4
        have FIN := Lib.hid (node_put (HS0.out.trans S4) F2 ht hsA)
        clear ht hb S4 CTo HKW
        obtain ⟨z7, _⟩ := rx_end7 (.int .i64 kind) (.int .i64 code) (.bool neg) (.slice A3 n3 c3) (.int .i64 lo) (.int .i64 hi') (.slice A2 n2 c2) F2
        obtain ⟨⟨y0, y1, y2, y3, y4, y5, y6⟩, _⟩ := z7.seven
        obtain ⟨⟨k0, k1, k2, k3, k4, k5, k6⟩, f0, f1', f2, f3, f4, f5, f6⟩ := F2.seven
        unfold put7 at y0 y1 y2 y3 y4 y5 y6
        clear F2 z7
        go_wp2_with fail
        rw [HRE.out]
        exact bodyPost_ret (v := .agg #[.int .i64 kind, .int .i64 code, .bool neg, .slice A3 n3 c3, .int .i64 lo, .int .i64 hi', .slice A2 n2 c2]) (by simp [results, Tryd.results18, go_sem, y0, y1, y2, y3, y4, y5, y6]) rfl FIN.out
      | false =>
        have hne : ¬ rowE s j := by
          rintro (e | e | e)
          · exact hje e
          · rw [e1] at e; cases e
          · rw [e2] at e; cases e
        have hjl : j < s.size := by omega
        have CN := fun w (hS : Stp pb s b j n W0 w) => rx_node HG.out hn hS.prs hjl hs (HE.out _ _ hS)
        clear CTo
        rcases List.eq_nil_or_concat kids with hnil | ⟨ks, t0, hcat⟩
        · subst hnil
          have hv0 : v = .slice A 0 cp := hv
          subst hv0
          clear hv
          obtain ⟨Q, hQ⟩ : ∃ Q, nodeF (grpF s b d) s b j = Q := ⟨_, rfl⟩
          rw [hQ] at CN
          have CN := Lib.hid CN
          cases Q with
          | bad ka er =>
            have HR2 := Lib.hid (show R = .bad ka er from hR2.symm.trans (row_nodebad hne (.inl rfl) hQ))
            clear hQ hR2 ho hx KI hS q2r hne HOW HXW HKW
            go_wp2_with fail
            refine CE.out.mono ?_
            rintro e wa ⟨rfl, hSa⟩
            have Ha := Lib.hid (HSr.out.trans hSa)
            have Oa := Lib.hid hSa.off
            clear hSa CE
            go_wp2_with fail
            refine (CT1.out _ Ha.out).mono ?_
            rintro e wb ⟨rfl, hSb⟩
            have Hb := Lib.hid (Ha.out.trans hSb)
            have Ob := Lib.hid (Oa.out.trans hSb.off)
            clear hSb CT1
            go_wp2_with fail
            refine (CT2.out _ Hb.out).mono ?_
            rintro e wc ⟨rfl, hSc⟩
            have Hc := Lib.hid (Hb.out.trans hSc)
            have Oc := Lib.hid (Ob.out.trans hSc.off)
            clear hSc CT2
            go_wp2_with fail
            refine (CN.out _ Hc.out).mono ?_
            rintro e w3 ⟨rfl, hO⟩
            have HO := Lib.hid hO
            clear hO CN
            go_wp2_with fail
            rw [HR2.out]
            exact ⟨rfl, rfl, HS0.out.off.trans (Hc.out.off.trans HO.out)⟩
          | ok t ka =>
            have hjk := node_in GI.out hjl hQ
            have HR2 := Lib.hid (show rowF (grpF s b d) s b f1 ka (([] : List Tr) ++ [t]) = R from (row_node hne (.inl rfl) hQ).symm.trans hR2)
            have hvb := fun q hq => (ho.lt q hq)
            have HVB := Lib.hid hvb
            clear hQ hR2 ho hx KI hS hne HKW hvb
            go_wp2_with fail
            refine CE.out.mono ?_
            rintro e wa ⟨rfl, hSa⟩
            have Ha := Lib.hid (HSr.out.trans hSa)
            have Oa := Lib.hid hSa.off
            clear hSa CE
            go_wp2_with fail
            refine (CT1.out _ Ha.out).mono ?_
            rintro e wb ⟨rfl, hSb⟩
            have Hb := Lib.hid (Ha.out.trans hSb)
            have Ob := Lib.hid (Oa.out.trans hSb.off)
            clear hSb CT1
            go_wp2_with fail
            refine (CT2.out _ Hb.out).mono ?_
            rintro e wc ⟨rfl, hSc⟩
            have Hc := Lib.hid (Hb.out.trans hSc)
            have Oc := Lib.hid (Ob.out.trans hSc.off)
            clear hSc CT2
            go_wp2_with fail
            refine (CN.out _ Hc.out).mono ?_
            rintro e w3 ⟨vv, rfl, ⟨vs, rfl, ht⟩, hS3⟩
            obtain ⟨kind, code, neg, A3, n3, c3, lo, hi', A2, n2, c2, rfl⟩ := ht.form
            have S3 := Lib.hid (Hc.out.trans hS3)
            have O3 := Lib.hid (Oc.out.trans hS3.off)
            have hz3 := O3.out.size
            have hz4 := (Oc.out).size
            have HT3 := Lib.hid ht
            have OW3 := Lib.hid (HOW.out _ O3.out)
            have OWm := Lib.hid (show w3.ownsRow W0.heap.size 30 7 (Value.slice A 0 cp) (0) xs from by have h9 := OW3.out; rwa [show (([] : List Tr)).length = 0 from rfl] at h9)
            have RN := Lib.hid (show ∀ jj u, [.int .i64 kind, .int .i64 code, .bool neg, .slice A3 n3 c3, .int .i64 lo, .int .i64 hi', .slice A2 n2 c2][jj]? = some u → (w3.alloc (.cells #[.int .i64 kind, .int .i64 code, .bool neg, .slice A3 n3 c3, .int .i64 lo, .int .i64 hi', .slice A2 n2 c2] 30)).cell? ((⟨w3.heap.size, 0, none⟩ : Addr).add jj) = some u from rx_row_new w3 #[.int .i64 kind, .int .i64 code, .bool neg, .slice A3 n3 c3, .int .i64 lo, .int .i64 hi', .slice A2 n2 c2] 30)
            have hz5 := S3.out.off.size
            clear hS3 ht CN
            go_wp2_with (at_builtin; refine wpList_append_own_at _ rfl _ _ 28 rfl W0.heap.size 30 i0 _ 7 88 Tryd.underlying28 HI.out.1 HI.out.2.1 HI.out.2.2.1 HI.out.2.2.2 rfl (by decide) _ (0) xs rfl (OWm.out.alloc _) ⟨w3.heap.size, 0, none⟩ 1 1 [.int .i64 kind, .int .i64 code, .bool neg, .slice A3 n3 c3, .int .i64 lo, .int .i64 hi', .slice A2 n2 c2] rfl rfl RN.out (by simp [Value.oneCell']) (by unfold maxLen; omega) (by omega) (by simp; omega) ?_)
            rintro v' w4 ho2 hgr _ hvv
            have hX3 := (Below.refl w3.heap.size w3).alloc (Nat.le_refl _) (.cells #[.int .i64 kind, .int .i64 code, .bool neg, .slice A3 n3 c3, .int .i64 lo, .int .i64 hi', .slice A2 n2 c2] 30)
            have ho3 : w4.ownsRow W0.heap.size 30 7 v' ((([] : List Tr)).length + 1) (xs ++ (#[.int .i64 kind, .int .i64 code, .bool neg, .slice A3 n3 c3, .int .i64 lo, .int .i64 hi', .slice A2 n2 c2] : Array Value).toList) := by rw [show (([] : List Tr)).length = 0 from rfl]; exact ho2
            have K4 := Lib.hid (Kds.snoc (m := wc.heap.size) OW3.out (HXW.out _ O3.out) HT3.out (fun q hq => Nat.lt_of_lt_of_le (HVB.out q hq).2 hz4) (Nat.le_trans Hc.out.off.size (Nat.le_refl _)) hX3 ho3 hgr (by rw [World.size_alloc]; exact hvv))
            have hvb2 : ∀ q, (Value.slice A 0 cp).ownBlock = some q → W0.heap.size ≤ q := fun q hq => (HVB.out q hq).1
            have P4 : Prs w4 pb s b ka n := Blk.grown (Blk.alloc S3.out.prs _) hgr (fun e => by have := hvb2 pb e.symm; omega)
            have S4 := Lib.hid (show Stp pb s b ka n W0 w4 from ⟨P4, off_grown (S3.out.off.trans (Off2.of_below hX3)) hgr hvb2⟩)
            have q4 := P4.four.2.2.1
            clear ho2 ho3 OWm hgr hvv hX3 hvb2 P4 RN OW3 HXW HOW HVB HT3 S3 O3
            go_wp2_with fail
            refine ⟨⟨v', ka, f1, ([] : List Tr) ++ [t], rfl, S4.out, hjk.2, K4.out, by have h8 := hkl; simp only [List.length_append, List.length_cons, List.length_nil] at h8 ⊢; omega, HR2.out, by omega⟩, ?_⟩
            rw [q4, q2r]
            simp [RowKit.intOf]
            omega
        · rw [List.concat_eq_append] at hcat
          subst hcat
          obtain ⟨K, kcap, cur, kind0, code0, neg0, A30, n30, c30, lo0, hi0', A20, n20, c20, hvK, hKn, hrow, ⟨u0, u1, u2, u3, u4, u5, u6⟩, hTK⟩ := KI.last
          have hlk : (ks ++ [t0]).length = ks.length + 1 := by simp
          obtain ⟨m, hm⟩ : ∃ m, ks.length = m := ⟨_, rfl⟩
          have hwm : IntKind.i64.wrap (((m + 1 : Nat) : Int) - 1) = (m : Int) := by simp [IntKind.wrap, IntKind.bits, IntKind.signed]; omega
          obtain ⟨m1, hm1⟩ : ∃ m1, m + 1 = m1 := ⟨_, rfl⟩
          rw [hm1] at hwm
          rw [hm, hm1] at hvK hlk
          have hlm : (ks ++ [t0]).length = m1 := hlk
          subst hvK
          have hm0 : (0 : Int) ≤ (m : Int) := by omega
          have hmm : (m : Int) < (m1 : Int) := by omega
          have CR := fun w (hS : Stp pb s b j n W0 w) (o : Off2 pb pb wr w) => rx_repeat (o := m * 7) (K := K) hS.prs hj hs ((o.block K (Array.getElem?_eq_some_iff.1 hrow).1 (by omega) (by omega)).trans hrow) (by omega) (hm ▸ u0) (hm ▸ u1) (hm ▸ u2) (hm ▸ u3) (hm ▸ u4) (hm ▸ u5) (hm ▸ u6)
          obtain ⟨Q2, hQ2⟩ : ∃ Q, repF s j = Q := ⟨_, rfl⟩
          rw [hQ2] at CR
          unfold RepM at CR
          have CR := Lib.hid CR
          have HTK := Lib.hid hTK
          have hKs := (Array.getElem?_eq_some_iff.1 hrow).1
          have HM := Lib.hid hm
          clear hv hrow u0 u1 u2 u3 u4 u5 u6 hTK hlk hm hm1
          match Q2, CR, hQ2 with
          | none, CR, hQ2 =>
            have HQ2 := Lib.hid hQ2
            clear hQ2 HTK
            obtain ⟨Q, hQ⟩ : ∃ Q, nodeF (grpF s b d) s b j = Q := ⟨_, rfl⟩
            rw [hQ] at CN
            have CN := Lib.hid CN
            cases Q with
            | bad ka er =>
              have HR2 := Lib.hid (show R = .bad ka er from hR2.symm.trans (row_nodebad hne (.inr HQ2.out) hQ))
              clear hQ hR2 ho hx KI hS q2r hne HOW HXW HKW
              go_wp2_with fail
              refine CE.out.mono ?_
              rintro e wa ⟨rfl, hSa⟩
              have Ha := Lib.hid (HSr.out.trans hSa)
              have Oa := Lib.hid hSa.off
              clear hSa CE
              go_wp2_with fail
              refine (CT1.out _ Ha.out).mono ?_
              rintro e wb ⟨rfl, hSb⟩
              have Hb := Lib.hid (Ha.out.trans hSb)
              have Ob := Lib.hid (Oa.out.trans hSb.off)
              clear hSb CT1
              go_wp2_with fail
              refine (CT2.out _ Hb.out).mono ?_
              rintro e wc ⟨rfl, hSc⟩
              have Hc := Lib.hid (Hb.out.trans hSc)
              have Oc := Lib.hid (Ob.out.trans hSc.off)
              clear hSc CT2
              go_wp2_with fail
              refine (show Calls _ _ _ _ _ from CR.out _ Hc.out Oc.out).mono ?_
              rintro e wd ⟨rfl, hSd⟩
              have Hd := Lib.hid (Hc.out.trans hSd)
              have Od := Lib.hid (Oc.out.trans hSd.off)
              clear hSd CR
              go_wp2_with fail
              refine (CN.out _ Hd.out).mono ?_
              rintro e w3 ⟨rfl, hO⟩
              have HO := Lib.hid hO
              clear hO CN
              go_wp2_with fail
              rw [HR2.out]
              exact ⟨rfl, rfl, HS0.out.off.trans (Hd.out.off.trans HO.out)⟩
            | ok t ka =>
              have hjk := node_in GI.out hjl hQ
              have HR2 := Lib.hid (show rowF (grpF s b d) s b f1 ka (ks ++ [t0] ++ [t]) = R from (row_node hne (.inr HQ2.out) hQ).symm.trans hR2)
              have hvb := fun q hq => (ho.lt q hq)
              have HVB := Lib.hid hvb
              clear hQ hR2 ho hx KI hS hne HKW hvb
              go_wp2_with fail
              refine CE.out.mono ?_
              rintro e wa ⟨rfl, hSa⟩
              have Ha := Lib.hid (HSr.out.trans hSa)
              have Oa := Lib.hid hSa.off
              clear hSa CE
              go_wp2_with fail
              refine (CT1.out _ Ha.out).mono ?_
              rintro e wb ⟨rfl, hSb⟩
              have Hb := Lib.hid (Ha.out.trans hSb)
              have Ob := Lib.hid (Oa.out.trans hSb.off)
              clear hSb CT1
              go_wp2_with fail
              refine (CT2.out _ Hb.out).mono ?_
              rintro e wc ⟨rfl, hSc⟩
              have Hc := Lib.hid (Hb.out.trans hSc)
              have Oc := Lib.hid (Ob.out.trans hSc.off)
              clear hSc CT2
              go_wp2_with fail
              refine (show Calls _ _ _ _ _ from CR.out _ Hc.out Oc.out).mono ?_
              rintro e wd ⟨rfl, hSd⟩
              have Hd := Lib.hid (Hc.out.trans hSd)
              have Od := Lib.hid (Oc.out.trans hSd.off)
              clear hSd CR
              go_wp2_with fail
              refine (CN.out _ Hd.out).mono ?_
              rintro e w3 ⟨vv, rfl, ⟨vs, rfl, ht⟩, hS3⟩
              obtain ⟨kind, code, neg, A3, n3, c3, lo, hi', A2, n2, c2, rfl⟩ := ht.form
              have S3 := Lib.hid (Hd.out.trans hS3)
              have O3 := Lib.hid (Od.out.trans hS3.off)
              have hz3 := O3.out.size
              have hz4 := (Od.out).size
              have HT3 := Lib.hid ht
              have OW3 := Lib.hid (HOW.out _ O3.out)
              have OWm := Lib.hid (show w3.ownsRow W0.heap.size 30 7 (Value.slice (some ⟨K, 0, none⟩) m1 kcap) (m1) xs from by have h9 := OW3.out; rwa [show (ks ++ [t0]).length = m1 from hlm] at h9)
              have RN := Lib.hid (show ∀ jj u, [.int .i64 kind, .int .i64 code, .bool neg, .slice A3 n3 c3, .int .i64 lo, .int .i64 hi', .slice A2 n2 c2][jj]? = some u → (w3.alloc (.cells #[.int .i64 kind, .int .i64 code, .bool neg, .slice A3 n3 c3, .int .i64 lo, .int .i64 hi', .slice A2 n2 c2] 30)).cell? ((⟨w3.heap.size, 0, none⟩ : Addr).add jj) = some u from rx_row_new w3 #[.int .i64 kind, .int .i64 code, .bool neg, .slice A3 n3 c3, .int .i64 lo, .int .i64 hi', .slice A2 n2 c2] 30)
              have hz5 := S3.out.off.size
              clear hS3 ht CN
              go_wp2_with (at_builtin; refine wpList_append_own_at _ rfl _ _ 28 rfl W0.heap.size 30 i0 _ 7 88 Tryd.underlying28 HI.out.1 HI.out.2.1 HI.out.2.2.1 HI.out.2.2.2 rfl (by decide) _ (m1) xs rfl (OWm.out.alloc _) ⟨w3.heap.size, 0, none⟩ 1 1 [.int .i64 kind, .int .i64 code, .bool neg, .slice A3 n3 c3, .int .i64 lo, .int .i64 hi', .slice A2 n2 c2] rfl rfl RN.out (by simp [Value.oneCell']) (by unfold maxLen; omega) (by omega) (by simp; omega) ?_)
              rintro v' w4 ho2 hgr _ hvv
              have hX3 := (Below.refl w3.heap.size w3).alloc (Nat.le_refl _) (.cells #[.int .i64 kind, .int .i64 code, .bool neg, .slice A3 n3 c3, .int .i64 lo, .int .i64 hi', .slice A2 n2 c2] 30)
              have ho3 : w4.ownsRow W0.heap.size 30 7 v' ((ks ++ [t0]).length + 1) (xs ++ (#[.int .i64 kind, .int .i64 code, .bool neg, .slice A3 n3 c3, .int .i64 lo, .int .i64 hi', .slice A2 n2 c2] : Array Value).toList) := by rw [show (ks ++ [t0]).length = m1 from hlm]; exact ho2
              have K4 := Lib.hid (Kds.snoc (m := wd.heap.size) OW3.out (HXW.out _ O3.out) HT3.out (fun q hq => Nat.lt_of_lt_of_le (HVB.out q hq).2 hz4) (Nat.le_trans Hd.out.off.size (Nat.le_refl _)) hX3 ho3 hgr (by rw [World.size_alloc]; exact hvv))
              have hvb2 : ∀ q, (Value.slice (some ⟨K, 0, none⟩) m1 kcap).ownBlock = some q → W0.heap.size ≤ q := fun q hq => (HVB.out q hq).1
              have P4 : Prs w4 pb s b ka n := Blk.grown (Blk.alloc S3.out.prs _) hgr (fun e => by have := hvb2 pb e.symm; omega)
              have S4 := Lib.hid (show Stp pb s b ka n W0 w4 from ⟨P4, off_grown (S3.out.off.trans (Off2.of_below hX3)) hgr hvb2⟩)
              have q4 := P4.four.2.2.1
              clear ho2 ho3 OWm hgr hvv hX3 hvb2 P4 RN OW3 HXW HOW HVB HT3 S3 O3
              go_wp2_with fail
              refine ⟨⟨v', ka, f1, ks ++ [t0] ++ [t], rfl, S4.out, hjk.2, K4.out, by have h8 := hkl; simp only [List.length_append, List.length_cons, List.length_nil] at h8 ⊢; omega, HR2.out, by omega⟩, ?_⟩
              rw [q4, q2r]
              simp [RowKit.intOf]
              omega
          | some (.bad ka er), CR, hQ2 =>
            have HR2 := Lib.hid (show R = .bad ka er from hR2.symm.trans (row_repbad hne hQ2))
            clear hQ2 HTK hR2 ho hx KI hS q2r hne HOW HXW HKW CN
            go_wp2_with fail
            refine CE.out.mono ?_
            rintro e wa ⟨rfl, hSa⟩
            have Ha := Lib.hid (HSr.out.trans hSa)
            have Oa := Lib.hid hSa.off
            clear hSa CE
            go_wp2_with fail
            refine (CT1.out _ Ha.out).mono ?_
            rintro e wb ⟨rfl, hSb⟩
            have Hb := Lib.hid (Ha.out.trans hSb)
            have Ob := Lib.hid (Oa.out.trans hSb.off)
            clear hSb CT1
            go_wp2_with fail
            refine (CT2.out _ Hb.out).mono ?_
            rintro e wc ⟨rfl, hSc⟩
            have Hc := Lib.hid (Hb.out.trans hSc)
            have Oc := Lib.hid (Ob.out.trans hSc.off)
            clear hSc CT2
            go_wp2_with fail
            refine (show Calls _ _ _ _ _ from CR.out _ Hc.out Oc.out).mono ?_
            rintro e wd ⟨rfl, hO⟩
            have HO := Lib.hid hO
            clear hO CR
            go_wp2_with fail
            rw [HR2.out]
            exact ⟨rfl, rfl, HS0.out.off.trans (Hc.out.off.trans HO.out)⟩
          | some (.ok rr ka), CR, hQ2 =>
            have hjk := rep_in hQ2
            have HR2 := Lib.hid (show rowF (grpF s b d) s b f1 ka (ks ++ [trR rr.1 rr.2 t0]) = R from (row_rep hne hQ2).symm.trans hR2)
            have hlm2 : (ks ++ [trR rr.1 rr.2 t0]).length = m1 := by rw [← hlm]; simp
            clear hQ2 hR2 ho hx KI hS hne HOW HXW CN
            go_wp2_with fail
            refine CE.out.mono ?_
            rintro e wa ⟨rfl, hSa⟩
            have Ha := Lib.hid (HSr.out.trans hSa)
            have Oa := Lib.hid hSa.off
            clear hSa CE
            go_wp2_with fail
            refine (CT1.out _ Ha.out).mono ?_
            rintro e wb ⟨rfl, hSb⟩
            have Hb := Lib.hid (Ha.out.trans hSb)
            have Ob := Lib.hid (Oa.out.trans hSb.off)
            clear hSb CT1
            go_wp2_with fail
            refine (CT2.out _ Hb.out).mono ?_
            rintro e wc ⟨rfl, hSc⟩
            have Hc := Lib.hid (Hb.out.trans hSc)
            have Oc := Lib.hid (Ob.out.trans hSc.off)
            clear hSc CT2
            go_wp2_with fail
            refine (show Calls _ _ _ _ _ from CR.out _ Hc.out Oc.out).mono ?_
            rintro e wd ⟨rfl, W1, hS1, hwd⟩
            have S1 := Hc.out.trans hS1
            have O1 := Oc.out.trans hS1.off
            have K1 := HKW.out _ O1
            have T1 := HTK.out.kept (w' := W1) (P' := fun g => W0.heap.size ≤ g ∧ g ≠ K) (fun g hg hp => ⟨hp, O1.block g hg (by omega) (by omega)⟩)
            have hz1 := S1.off.size
            have hz2 := O1.size
            have K4 := Lib.hid (show Kds wd W0.heap.size (.slice (some ⟨K, 0, none⟩) m1 kcap) (ks ++ [trR rr.1 rr.2 t0]) from by
              rw [hwd]
              have h9 : Kds W1 W0.heap.size (.slice (some ⟨K, 0, none⟩) (ks.length + 1) kcap) (ks ++ [t0]) := by
                rw [show ks.length + 1 = m1 by rw [← hlm]; simp]
                exact K1
              have h8 := Kds.rep (lo := rr.1) (hi := rr.2) h9 hKn T1 hz1 (by omega)
              rw [show ks.length + 1 = m1 by rw [← hlm]; simp, HM.out] at h8
              exact h8)
            have S4 := Lib.hid (show Stp pb s b ka n W0 wd from by
              rw [hwd]
              exact (S1.aside (off_put7o _ _ _ _ _ _ _ _ _ _) hKn (by omega)).alloc _)
            have q4 := S4.out.prs.four.2.2.1
            clear hS1 hwd S1 O1 K1 T1 CR HTK HKW
            go_wp2_with fail
            refine ⟨⟨_, ka, f1, ks ++ [trR rr.1 rr.2 t0], rfl, S4.out, hjk.2, K4.out, by rw [hlm2]; rw [hlm] at hkl; omega, HR2.out, by omega⟩, ?_⟩
            rw [q4, q2r]
            simp [RowKit.intOf]
            omega
end Go.Proofs.YtmfcofiihopbfaaDoor

namespace Go.Proofs.YtmfcofiihopbfaaDoor
open Go.RowKit Go.Lib

/-- A row of one node. -/
theorem Kds.one {w : World} {n m : Nat} {t : Tr} {vs : Array Value} (ht : TrV w (fun c => m ≤ c) t vs) (hnm : n ≤ m) (hm : m ≤ w.heap.size) : Kds (w.alloc (.cells vs 30)) n (.slice (some ⟨w.heap.size, 0, none⟩) 1 1) [t] := by
  have ho : (w.alloc (.cells vs 30)).ownsRow n 30 7 (.slice (some ⟨w.heap.size, 0, none⟩) 1 1) 1 vs.toList := World.ownsRow_lit w vs 1 (Nat.le_trans hnm hm) (by decide) (by rw [ht.1])
  refine ⟨vs.toList, ho, fun j u hj => ?_⟩
  have hj0 : j = 0 := by
    have := (List.getElem?_eq_some_iff.1 hj).1
    simp at this
    omega
  subst hj0
  have hu : t = u := by simpa using hj
  subst hu
  refine (ht.2.kept (fun g hg hp => ?_)).congr fun i hi => ?_
  · have hp : m ≤ g := hp
    exact ⟨⟨by omega, fun e => by have h2 : g = w.heap.size := Option.some.inj e; omega⟩, Below.heap_alloc w _ g hg⟩
  · rw [rdL, Nat.zero_mul, Nat.zero_add, Array.getElem?_toList]
set_option maxRecDepth 100000 in
set_option maxHeartbeats 4000000 in
theorem rx_choice {W : World} {pb d : Nat} {s : ByteArray} {b : Bool} {i n : Nat} (hg : GrpOk s b d) (hn : n + d = 40) (h : Prs W pb s b i n) (hi : i ≤ s.size) (hs : s.size ≤ 1024) (hE : Env W pb) :
    Calls Tryd.prog 14 #[pbP pb] W (RxOut (gTr W.heap.size) pb s b n W (chD s b d i)) := by
  have hlt := Blk.lt h
  have F0 := Blk.new W zero7 30
  have S0 := (Stp.refl h).alloc (.cells zero7 30)
  have hE0 := hE.step S0 hlt
  have hsz0 : (W.alloc (.cells zero7 30)).heap.size = W.heap.size + 1 := by simp
  obtain ⟨i0, hi0, hz0, hz1, hz2⟩ := info_parts info_rx
  have HI := Lib.hid (And.intro hi0 (And.intro hz0 (And.intro hz1 hz2)))
  obtain ⟨W0, hW0⟩ : ∃ W0, W.alloc (.cells zero7 30) = W0 := ⟨_, rfl⟩
  rw [hW0] at F0 S0 hE0 hsz0
  have hlt0 : pb < W0.heap.size := by omega
  have hsA : W.heap.size < W0.heap.size := by omega
  have hneB : pb ≠ W.heap.size := by omega
  clear hsz0
  have HS0 := Lib.hid S0
  have HKF := Lib.hid (fun (w : World) (j : Nat) (hS : Stp pb s b j n W0 w) => show Blk w W.heap.size zero7 30 from ⟨(hS.off.block _ F0.lt (Ne.symm hneB) (Ne.symm hneB)).trans F0.row⟩)
  have HE := Lib.hid (fun (w : World) (j : Nat) (hS : Stp pb s b j n W0 w) => hE0.step hS hlt0)
  have GI := Lib.hid (grp_in s b d)
  have HRow := Lib.hid (fun (w : World) (j : Nat) (hj : j ≤ s.size) (hS : Stp pb s b j n W0 w) => rx_row hg hn hS.prs hj hs (hE0.step hS hlt0))
  obtain ⟨R, hR⟩ : ∃ R, chD s b d i = R := ⟨_, rfl⟩
  have hR0 : chF (grpF s b d) s b (s.size + 1) i [] = R := hR
  rw [hR]
  obtain ⟨Q0, hQ0⟩ : ∃ Q, rowF (grpF s b d) s b (s.size + 1) i [] = Q := ⟨_, rfl⟩
  rw [chF, hQ0] at hR0
  have CR0 := HRow.out _ i hi (Stp.refl S0.prs)
  rw [hQ0] at CR0
  have CR0 := Lib.hid CR0
  clear h hE hE0 S0 F0 hi0 hz0 hz1 hz2 hR hg
  cases Q0 with
  | bad ka er =>
    have HR2 := Lib.hid (show R = .bad ka er from hR0.symm)
    clear hR0 hQ0
    go_enter Tryd.func14, Tryd.ntmps14
    go_wp2_with fail
    clear hW0
    refine CR0.out.mono ?_
    rintro e w1 ⟨rfl, hO⟩
    have HO := Lib.hid hO
    clear hO CR0
    go_wp2_with fail
    rw [HR2.out]
    exact ⟨rfl, rfl, HS0.out.off.trans HO.out⟩
  | ok t k0 =>
    have hk0 := row_in GI.out hi hQ0
    have HR0 := Lib.hid hR0
    clear hR0 hQ0
    go_enter Tryd.func14, Tryd.ntmps14
    go_wp2_with fail
    clear hW0
    refine CR0.out.mono ?_
    rintro e w1 ⟨vv, rfl, ⟨vs, rfl, ht⟩, hS1⟩
    obtain ⟨kind, code, neg, A3, n3, c3, lo, hi', A2, n2, c2, rfl⟩ := ht.form
    have K1 := Lib.hid (Kds.one (n := W0.heap.size) ht (Nat.le_refl _) hS1.off.size)
    have S1 := Lib.hid (hS1.alloc (.cells #[.int .i64 kind, .int .i64 code, .bool neg, .slice A3 n3 c3, .int .i64 lo, .int .i64 hi', .slice A2 n2 c2] 30))
    clear ht hS1 CR0
    go_wp2_with fail
    go_loopw [3] (fun sv wr => ∃ (v : Value) (j : Nat) (us : List Tr) (t : Tr) (f : Nat), v = sv ∧ Stp pb s b j n W0 wr ∧ j ≤ s.size ∧ Kds wr W0.heap.size v (us ++ [t]) ∧ us.length ≤ j ∧ (if st1 s j 124 then chF (grpF s b d) s b f (j + 1) (us ++ [t]) else .ok (togF 6 (us ++ [t])) j) = R ∧ (j < s.size → s.size - (j + 1) < f)) (fun _ wr => s.size - (match wr.cell? ⟨pb, 2, none⟩ with | some v => (RowKit.intOf v).toNat | none => 0))
    case atStart => exact ⟨_, k0, [], t, s.size, rfl, S1.out, hk0.2, K1.out, by simp, HR0.out, fun _ => by omega⟩
    case round =>
      obtain ⟨v, j, us, t, f, rfl, hS, hj, hK, hkl, hR2, hf⟩ := hrel
      have HSr := Lib.hid hS
      have q2r := hS.prs.four.2.2.1
      obtain ⟨p1, e1⟩ : ∃ p, st1 s j 124 = p := ⟨_, rfl⟩
      have CT := Lib.hid (rx_take1 hS.prs hj hs 124 p1 e1)
      obtain ⟨A, cp, hv⟩ := hK.slice
      obtain ⟨xs, ho, hx⟩ := hK
      have KI : Kds wr W0.heap.size v (us ++ [t]) := ⟨xs, ho, hx⟩
      have HKW := Lib.hid (fun (w : World) (o : Off2 pb pb wr w) => KI.kept (w' := w) (fun g hg hp => o.block g hg (by omega) (by omega)))
      have HOW := Lib.hid (fun (w : World) (o : Off2 pb pb wr w) => own_off ho o hlt0)
      have HXW := Lib.hid (fun (w : World) (o : Off2 pb pb wr w) (jj : Nat) (t' : Tr) (ht : (us ++ [t])[jj]? = some t') => (hx jj t' ht).kept (w' := w) (P' := fun g => W0.heap.size ≤ g ∧ some g ≠ v.ownBlock) (fun g hg hp => ⟨hp, o.block g hg (by omega) (by omega)⟩))
      have hll : (us ++ [t]).length = us.length + 1 := by simp
      obtain ⟨m1, hm1⟩ : ∃ m1, us.length + 1 = m1 := ⟨_, rfl⟩
      rw [hm1] at hll
      have hv1 : v = .slice A (us ++ [t]).length cp := hv
      rw [hll] at hv
      rw [e1] at hR2
      cases p1 with
      | false =>
        simp only [Bool.false_eq_true, if_false] at hR2
        have HRE := Lib.hid (show R = .ok (togF 6 (us ++ [t])) j from hR2.symm)
        have cto := fun (w : World) (hI : Tr.Ins w (fun g => W0.heap.size ≤ g) (us ++ [t]) A 0) => rx_together hI (by omega) 6 cp
        simp only [hll] at cto
        have CTo := Lib.hid cto
        have HIN := Lib.hid (fun (w : World) (o : Off2 pb pb wr w) => (show Kds w W0.heap.size (.slice A (us ++ [t]).length cp) (us ++ [t]) from hv1 ▸ HKW.out w o).ins)
        obtain ⟨T6, hT6⟩ : ∃ T, togF 6 (us ++ [t]) = T := ⟨_, rfl⟩
        rw [hT6] at HRE CTo
        clear hv1 HKW cto hT6
        subst hv
        clear ho hx KI hR2 hS q2r HOW HXW e1
        go_wp2_with fail
        refine CT.out.mono ?_
        rintro e w2 ⟨rfl, hSt⟩
        have HSt := Lib.hid (show Stp pb s b j n wr w2 from hSt)
        clear hSt CT
        go_wp2_with fail
        refine (CTo.out _ (HIN.out _ HSt.out.off)).mono ?_
        rintro e w4 ⟨vs, rfl, ht, hb⟩
        obtain ⟨kind, code, neg, A3, n3, c3, lo, hi', A2, n2, c2, rfl⟩ := ht.form
        have S4 := (HSr.out.trans HSt.out).below hb
        have F2 := HKF.out _ _ S4
        have FIN := Lib.hid (node_put (HS0.out.trans S4) F2 ht hsA)
        clear ht hb S4 CTo HIN
        obtain ⟨z7, _⟩ := rx_end7 (.int .i64 kind) (.int .i64 code) (.bool neg) (.slice A3 n3 c3) (.int .i64 lo) (.int .i64 hi') (.slice A2 n2 c2) F2
        obtain ⟨⟨y0, y1, y2, y3, y4, y5, y6⟩, _⟩ := z7.seven
        obtain ⟨⟨k0, k1, k2, k3, k4, k5, k6⟩, f0, f1', f2, f3, f4, f5, f6⟩ := F2.seven
        unfold put7 at y0 y1 y2 y3 y4 y5 y6
        clear F2 z7
        go_wp2_with fail
        rw [HRE.out]
        exact bodyPost_ret (v := .agg #[.int .i64 kind, .int .i64 code, .bool neg, .slice A3 n3 c3, .int .i64 lo, .int .i64 hi', .slice A2 n2 c2]) (by simp [results, Tryd.results14, go_sem, y0, y1, y2, y3, y4, y5, y6]) rfl FIN.out
      | true =>
        simp only [if_true] at hR2
        have hj1 := st1_lt e1
        obtain ⟨f1, rfl⟩ : ∃ g, f = g + 1 := ⟨f - 1, by have := hf hj1; omega⟩
        obtain ⟨Q, hQ⟩ : ∃ Q, rowF (grpF s b d) s b (s.size + 1) (j + 1) [] = Q := ⟨_, rfl⟩
        rw [chF, hQ] at hR2
        have CN := fun w (hS : Stp pb s b (j + 1) n W0 w) => HRow.out w (j + 1) hj1 hS
        rw [hQ] at CN
        have CN := Lib.hid CN
        cases Q with
        | bad ka er =>
          have HR2 := Lib.hid (show R = .bad ka er from hR2.symm)
          clear hQ hR2 ho hx KI hS q2r HOW HXW HKW e1 hv1
          go_wp2_with fail
          refine CT.out.mono ?_
          rintro e w2 ⟨rfl, hSt⟩
          have HSt := Lib.hid (show Stp pb s b (j + 1) n wr w2 from hSt)
          clear hSt CT
          go_wp2_with fail
          refine (CN.out _ (HSr.out.trans HSt.out)).mono ?_
          rintro e w3 ⟨rfl, hO⟩
          have HO := Lib.hid hO
          clear hO CN
          go_wp2_with fail
          rw [HR2.out]
          exact ⟨rfl, rfl, HS0.out.off.trans ((HSr.out.trans HSt.out).off.trans HO.out)⟩
        | ok t2 ka =>
          have hjk := row_in GI.out hj1 hQ
          have HR2 := Lib.hid hR2
          have hvb := fun q hq => (ho.lt q hq)
          have HVB := Lib.hid hvb
          clear hQ hR2 ho hx KI hS HKW hvb e1 hv1
          subst hv
          go_wp2_with fail
          refine CT.out.mono ?_
          rintro e w2 ⟨rfl, hSt⟩
          have HSt := Lib.hid (show Stp pb s b (j + 1) n wr w2 from hSt)
          clear hSt CT
          go_wp2_with fail
          refine (CN.out _ (HSr.out.trans HSt.out)).mono ?_
          rintro e w3 ⟨vv, rfl, ⟨vs, rfl, ht⟩, hS3⟩
          obtain ⟨kind, code, neg, A3, n3, c3, lo, hi', A2, n2, c2, rfl⟩ := ht.form
          have S3 := Lib.hid ((HSr.out.trans HSt.out).trans hS3)
          have O3 := Lib.hid (HSt.out.off.trans hS3.off)
          have hz3 := O3.out.size
          have hz4 := HSt.out.off.size
          have hz6 := HSr.out.off.size
          have HT3 := Lib.hid ht
          have OW3 := Lib.hid (HOW.out _ O3.out)
          have OWm := Lib.hid (show w3.ownsRow W0.heap.size 30 7 (.slice A m1 cp) m1 xs from by have h9 := OW3.out; rwa [hll] at h9)
          have RN := Lib.hid (show ∀ jj u, [.int .i64 kind, .int .i64 code, .bool neg, .slice A3 n3 c3, .int .i64 lo, .int .i64 hi', .slice A2 n2 c2][jj]? = some u → (w3.alloc (.cells #[.int .i64 kind, .int .i64 code, .bool neg, .slice A3 n3 c3, .int .i64 lo, .int .i64 hi', .slice A2 n2 c2] 30)).cell? ((⟨w3.heap.size, 0, none⟩ : Addr).add jj) = some u from rx_row_new w3 #[.int .i64 kind, .int .i64 code, .bool neg, .slice A3 n3 c3, .int .i64 lo, .int .i64 hi', .slice A2 n2 c2] 30)
          have hz5 := S3.out.off.size
          clear hS3 ht CN
          go_wp2_with (at_builtin; refine wpList_append_own_at _ rfl _ _ 28 rfl W0.heap.size 30 i0 _ 7 88 Tryd.underlying28 HI.out.1 HI.out.2.1 HI.out.2.2.1 HI.out.2.2.2 rfl (by decide) _ m1 xs rfl (OWm.out.alloc _) ⟨w3.heap.size, 0, none⟩ 1 1 [.int .i64 kind, .int .i64 code, .bool neg, .slice A3 n3 c3, .int .i64 lo, .int .i64 hi', .slice A2 n2 c2] rfl rfl RN.out (by simp [Value.oneCell']) (by unfold maxLen; omega) (by omega) (by simp; omega) ?_)
          rintro v' w4 ho2 hgr _ hvv
          have hX3 := (Below.refl w3.heap.size w3).alloc (Nat.le_refl _) (.cells #[.int .i64 kind, .int .i64 code, .bool neg, .slice A3 n3 c3, .int .i64 lo, .int .i64 hi', .slice A2 n2 c2] 30)
          have ho3 : w4.ownsRow W0.heap.size 30 7 v' ((us ++ [t]).length + 1) (xs ++ (#[.int .i64 kind, .int .i64 code, .bool neg, .slice A3 n3 c3, .int .i64 lo, .int .i64 hi', .slice A2 n2 c2] : Array Value).toList) := by rw [hll]; exact ho2
          have K4 := Lib.hid (Kds.snoc (m := w2.heap.size) OW3.out (HXW.out _ O3.out) HT3.out (fun q hq => Nat.lt_of_lt_of_le (HVB.out q hq).2 hz4) (Nat.le_trans hz6 hz4) hX3 ho3 hgr (by rw [World.size_alloc]; exact hvv))
          have hvb2 : ∀ q, (Value.slice A m1 cp).ownBlock = some q → W0.heap.size ≤ q := fun q hq => (HVB.out q hq).1
          have P4 : Prs w4 pb s b ka n := Blk.grown (Blk.alloc S3.out.prs _) hgr (fun e => by have := hvb2 pb e.symm; omega)
          have S4 := Lib.hid (show Stp pb s b ka n W0 w4 from ⟨P4, off_grown (S3.out.off.trans (Off2.of_below hX3)) hgr hvb2⟩)
          have q4 := P4.four.2.2.1
          clear ho2 ho3 OWm hgr hvv hX3 hvb2 P4 RN OW3 HXW HOW HVB HT3 S3 O3
          go_wp2_with fail
          refine ⟨⟨v', ka, us ++ [t], t2, f1, rfl, S4.out, hjk.2, K4.out, by rw [hll]; omega, HR2.out, fun _ => by have := hf hj1; omega⟩, ?_⟩
          rw [q4, q2r]
          simp [RowKit.intOf]
          omega
end Go.Proofs.YtmfcofiihopbfaaDoor

namespace Go.Proofs.YtmfcofiihopbfaaDoor
open Go.RowKit Go.Lib

set_option maxRecDepth 100000 in
set_option maxHeartbeats 2000000 in
theorem rx_group (s : ByteArray) (b : Bool) : ∀ d, GrpOk s b d
  | 0 => by
    intro W pb i n a h hn hi hs hE
    obtain rfl : n = 40 := by omega
    have CG := Lib.hid (fun W => rx_big pb a W)
    have S0 := (Stp.refl h).alloc (.cells zero7 30)
    obtain ⟨W0, hW0⟩ : ∃ W0, W.alloc (.cells zero7 30) = W0 := ⟨_, rfl⟩
    rw [hW0] at S0
    obtain ⟨_, _, _, p3, _⟩ := S0.prs.four
    have p3' : W0.cell? ⟨pb, 3, none⟩ = some (.int .i64 40) := p3
    have HS0 := Lib.hid S0
    rw [grpF]
    clear h hE S0 p3
    go_enter Tryd.func27, Tryd.ntmps27
    go_wp2_with fail
    refine (CG.out _).mono ?_
    rintro e w1 ⟨rfl, rfl⟩
    clear hW0
    go_wp2_with fail
    exact ⟨rfl, rfl, HS0.out.off⟩
  | d + 1 => by
    intro W pb i n a h hn hi hs hE
    have CW := Lib.hid (fun W => rx_wrong pb a W)
    have hlt := Blk.lt h
    have F0 := Blk.new W zero7 30
    have S0 := (Stp.refl h).alloc (.cells zero7 30)
    have hE0 := hE.step S0 hlt
    have hsz0 : (W.alloc (.cells zero7 30)).heap.size = W.heap.size + 1 := by simp
    obtain ⟨W0, hW0⟩ : ∃ W0, W.alloc (.cells zero7 30) = W0 := ⟨_, rfl⟩
    rw [hW0] at F0 S0 hE0 hsz0
    have hlt0 : pb < W0.heap.size := by omega
    have hsA : W.heap.size < W0.heap.size := by omega
    have hneB : pb ≠ W.heap.size := by omega
    clear hsz0
    obtain ⟨n1, hn1⟩ : ∃ n1, n + 1 = n1 := ⟨_, rfl⟩
    have S1 : Stp pb s b i n1 W0 (W0.setCell ⟨pb, 3, none⟩ (.int .i64 (n1 : Int))) := (Stp.refl S0.prs).open n1
    have hw1 : IntKind.i64.wrap ((n : Int) + 1) = (n1 : Int) := by simp [IntKind.wrap, IntKind.bits, IntKind.signed]; omega
    have hw2 : IntKind.i64.wrap ((n1 : Int) - 1) = (n : Int) := by simp [IntKind.wrap, IntKind.bits, IntKind.signed]; omega
    have hn40 : ((n : Int) == 40) = false := by rw [beq_eq_false_iff_ne]; omega
    obtain ⟨_, _, _, p3, _, f3⟩ := S0.prs.four
    have CC := rx_choice (rx_group s b d) (show n1 + d = 40 by omega) S1.prs hi hs (hE0.step S1 hlt0)
    have HS0 := Lib.hid S0
    obtain ⟨W1, hW1⟩ : ∃ W1, W0.setCell ⟨pb, 3, none⟩ (.int .i64 (n1 : Int)) = W1 := ⟨_, rfl⟩
    rw [hW1] at S1 CC
    have HS1 := Lib.hid S1
    have hs1 := S1.off.size
    have HKF := Lib.hid (fun (w : World) (j m : Nat) (hS : Stp pb s b j m W0 w) => show Blk w W.heap.size zero7 30 from ⟨(hS.off.block _ F0.lt (Ne.symm hneB) (Ne.symm hneB)).trans F0.row⟩)
    have CI := Lib.hid (fun (x : Tr) (k : Nat) (hh : chD s b d i = .ok x k) => chD_in hi hh)
    have e0 : grpF s b (d + 1) a i = match chD s b d i with | .bad k e => .bad k e | .ok t k => if st1 s k 41 then .ok t (k + 1) else .bad a 90 := by
      rw [grpF]
      rfl
    rw [e0]
    clear h hE hE0 S0 F0 S1 e0
    cases hQ : chD s b d i with
    | bad ka er =>
      rw [hQ] at CC
      have CC := Lib.hid CC
      clear hQ CI
      go_enter Tryd.func27, Tryd.ntmps27
      go_wp2_with fail
      refine CC.out.mono ?_
      rintro e w2 ⟨rfl, hO⟩
      have HO := Lib.hid hO
      clear hO CC hW0 hW1
      go_wp2_with fail
      exact ⟨rfl, rfl, HS0.out.off.trans (HS1.out.off.trans HO.out)⟩
    | ok t k =>
      have hk := CI.out t k hQ
      rw [hQ] at CC
      have CC := Lib.hid CC
      obtain ⟨p1, e1⟩ : ∃ p, st1 s k 41 = p := ⟨_, rfl⟩
      have CT := Lib.hid (fun w (hS : Stp pb s b k n1 W0 w) => rx_take1 hS.prs hk.2 hs 41 p1 e1)
      dsimp only
      rw [e1]
      clear hQ CI e1
      cases p1 with
      | false =>
        simp only [Bool.false_eq_true, if_false]
        go_enter Tryd.func27, Tryd.ntmps27
        go_wp2_with fail
        refine CC.out.mono ?_
        rintro e w2 ⟨vv, rfl, ⟨vs, rfl, ht⟩, hS2⟩
        obtain ⟨kind, code, neg, A3, n3, c3, lo, hi', A2, n2, c2, rfl⟩ := ht.form
        have S2 := (HS1.out.trans hS2).alloc (.cells #[.int .i64 kind, .int .i64 code, .bool neg, .slice A3 n3 c3, .int .i64 lo, .int .i64 hi', .slice A2 n2 c2] 30)
        have HS2 := Lib.hid S2
        clear hS2 S2 ht CC hW0 hW1
        go_wp2_with fail
        refine (CT.out _ HS2.out).mono ?_
        rintro e w3 ⟨rfl, hS⟩
        have HS3 := Lib.hid (HS2.out.trans hS)
        clear hS CT
        go_wp2_with fail
        refine (CW.out _).mono ?_
        rintro e w4 ⟨rfl, rfl⟩
        go_wp2_with fail
        exact ⟨rfl, rfl, HS0.out.off.trans HS3.out.off⟩
      | true =>
        simp only [if_true]
        go_enter Tryd.func27, Tryd.ntmps27
        go_wp2_with fail
        refine CC.out.mono ?_
        rintro e w2 ⟨vv, rfl, ⟨vs, rfl, ht⟩, hS2⟩
        obtain ⟨kind, code, neg, A3, n3, c3, lo, hi', A2, n2, c2, rfl⟩ := ht.form
        have hz2 := (HS1.out.trans hS2).off.size
        have hz2b := hS2.off.size
        have S2 := (HS1.out.trans hS2).alloc (.cells #[.int .i64 kind, .int .i64 code, .bool neg, .slice A3 n3 c3, .int .i64 lo, .int .i64 hi', .slice A2 n2 c2] 30)
        have FT := Blk.new w2 #[.int .i64 kind, .int .i64 code, .bool neg, .slice A3 n3 c3, .int .i64 lo, .int .i64 hi', .slice A2 n2 c2] 30
        have hbT := (Below.refl w2.heap.size w2).alloc (Nat.le_refl _) (.cells #[.int .i64 kind, .int .i64 code, .bool neg, .slice A3 n3 c3, .int .i64 lo, .int .i64 hi', .slice A2 n2 c2] 30)
        have HS2 := Lib.hid S2
        have HT := Lib.hid (ht.kept (P' := fun c => W0.heap.size ≤ c ∧ c < w2.heap.size) (w' := w2.alloc (.cells #[.int .i64 kind, .int .i64 code, .bool neg, .slice A3 n3 c3, .int .i64 lo, .int .i64 hi', .slice A2 n2 c2] 30)) (fun g hg hp => ⟨⟨Nat.le_trans hs1 hp, hg⟩, hbT.block g hg⟩))
        have HFT := Lib.hid FT
        clear hS2 S2 ht CC hW0 hW1 FT hbT
        go_wp2_with fail
        refine (CT.out _ HS2.out).mono ?_
        rintro e w3 ⟨rfl, hS⟩
        have hS : Stp pb s b (k + 1) n1 (w2.alloc (.cells #[.int .i64 kind, .int .i64 code, .bool neg, .slice A3 n3 c3, .int .i64 lo, .int .i64 hi', .slice A2 n2 c2] 30)) w3 := hS
        have S3 := HS2.out.trans hS
        have pbne : pb < w2.heap.size := by omega
        have FT3 : Blk w3 w2.heap.size #[.int .i64 kind, .int .i64 code, .bool neg, .slice A3 n3 c3, .int .i64 lo, .int .i64 hi', .slice A2 n2 c2] 30 := ⟨(hS.off.block _ HFT.out.lt (by omega) (by omega)).trans HFT.out.row⟩
        have HT3 := HT.out.kept (w' := w3) (P' := fun c => W0.heap.size ≤ c) (fun g hg hp => ⟨hp.1, hS.off.block g hg (by omega) (by omega)⟩)
        have S4 := S3.open n
        have hE4 := HKF.out _ _ _ S4
        obtain ⟨_, _, _, r3, _, g3⟩ := S3.prs.four
        have FT4 : Blk (w3.setCell ⟨pb, 3, none⟩ (.int .i64 (n : Int))) w2.heap.size #[.int .i64 kind, .int .i64 code, .bool neg, .slice A3 n3 c3, .int .i64 lo, .int .i64 hi', .slice A2 n2 c2] 30 := Blk.other FT3 (by omega)
        have HT4 := HT3.kept (w' := w3.setCell ⟨pb, 3, none⟩ (.int .i64 (n : Int))) (P' := fun c => W0.heap.size ≤ c) (fun g hg hp => ⟨hp, Below.heap_setCell w3 ⟨pb, 3, none⟩ _ g (by have hp : W0.heap.size ≤ g := hp; show g ≠ pb; omega)⟩)
        obtain ⟨w5, hw5⟩ : ∃ w5, w3.setCell ⟨pb, 3, none⟩ (.int .i64 (n : Int)) = w5 := ⟨_, rfl⟩
        rw [hw5] at S4 hE4 FT4 HT4
        have F2 := hE4
        have FIN := Lib.hid (node_put (HS0.out.trans S4) F2 HT4 hsA)
        obtain ⟨z7, _⟩ := rx_end7 (.int .i64 kind) (.int .i64 code) (.bool neg) (.slice A3 n3 c3) (.int .i64 lo) (.int .i64 hi') (.slice A2 n2 c2) F2
        obtain ⟨⟨y0, y1, y2, y3, y4, y5, y6⟩, _⟩ := z7.seven
        obtain ⟨⟨k0, k1, k2, k3, k4, k5, k6⟩, f0, f1, f2, f3', f4, f5, f6⟩ := F2.seven
        obtain ⟨⟨t0, t1, t2, t3, t4, t5, t6⟩, _⟩ := FT4.seven
        unfold put7 at y0 y1 y2 y3 y4 y5 y6
        clear F2 z7 hS S3 FT3 HT3 S4 hE4 FT4 HT4 HT HFT HKF CT
        go_wp2_with fail
        exact bodyPost_ret (v := .agg #[.int .i64 kind, .int .i64 code, .bool neg, .slice A3 n3 c3, .int .i64 lo, .int .i64 hi', .slice A2 n2 c2]) (by simp [results, Tryd.results27, go_sem, y0, y1, y2, y3, y4, y5, y6]) rfl FIN.out
end Go.Proofs.YtmfcofiihopbfaaDoor

namespace Go.Proofs.YtmfcofiihopbfaaDoor
open Go.RowKit Go.Lib

set_option maxRecDepth 100000 in
set_option maxHeartbeats 1000000 in
theorem rx_idle (pt pa pe : Addr) (w : World) :
    CallsD Tryd.prog 12 #[.pointer (some pt), .pointer (some pa), .pointer (some pe)] .returning w fun e u' w' => e = .returned (.tuple #[]) ∧ u' = .returning ∧ w' = w := by
  refine callsD_of_wpS Tryd.func12 rfl fun c₀ cs hu => ?_
  apply wpS_seq
  apply wpS_region
  simp [wpOpsS, go_sem, recoverD, hu, Tryd.ntmps12, Exit.thenS]
  refine wpS_of_wp ?_
  cases c₀
  go_wp2_with fail
  simp_all [bodyPostS, results, Tryd.results12]

theorem seven_of {v : Array Value} (h : v.size = 7) : ∃ a b c d e f g, v = #[a, b, c, d, e, f, g] := by
  refine ⟨v[0], v[1], v[2], v[3], v[4], v[5], v[6], Array.ext (by simp [h]) fun i h1 h2 => ?_⟩
  match i, h2 with
  | 0, _ => rfl
  | 1, _ => rfl
  | 2, _ => rfl
  | 3, _ => rfl
  | 4, _ => rfl
  | 5, _ => rfl
  | 6, _ => rfl
theorem caught_end {W : World} {pt pa pe : Nat} {x y at0 er : Int} {v0 v1 v2 v3 v4 v5 v6 : Value} (h : Blk W pt #[v0, v1, v2, v3, v4, v5, v6] 30 ∧ Blk W pa #[.int .i64 x] 3 ∧ Blk W pe #[.int .i64 y] 23) (n1 : pt ≠ pa) (n2 : pt ≠ pe) (n3 : pa ≠ pe) :
    Blk ((((put7 W pt (.int .i64 0) (.int .i64 0) (.bool false) (.slice none 0 0) (.int .i64 0) (.int .i64 0) (.slice none 0 0)).setCell ⟨pa, 0, none⟩ (.int .i64 at0)).setCell ⟨pe, 0, none⟩ (.int .i64 er)).drew) pt zero7 30 ∧
    Blk ((((put7 W pt (.int .i64 0) (.int .i64 0) (.bool false) (.slice none 0 0) (.int .i64 0) (.int .i64 0) (.slice none 0 0)).setCell ⟨pa, 0, none⟩ (.int .i64 at0)).setCell ⟨pe, 0, none⟩ (.int .i64 er)).drew) pa #[.int .i64 at0] 3 ∧
    Blk ((((put7 W pt (.int .i64 0) (.int .i64 0) (.bool false) (.slice none 0 0) (.int .i64 0) (.int .i64 0) (.slice none 0 0)).setCell ⟨pa, 0, none⟩ (.int .i64 at0)).setCell ⟨pe, 0, none⟩ (.int .i64 er)).drew) pe #[.int .i64 er] 23 := by
  obtain ⟨h0, h1, h2⟩ := h
  obtain ⟨z7, o7⟩ := rx_end7 (.int .i64 0) (.int .i64 0) (.bool false) (.slice none 0 0) (.int .i64 0) (.int .i64 0) (.slice none 0 0) h0
  have k1 := h1.off2 o7 n1.symm n1.symm
  have k2 := h2.off2 o7 n2.symm n2.symm
  obtain ⟨W1, hW1⟩ : ∃ W1, put7 W pt (.int .i64 0) (.int .i64 0) (.bool false) (.slice none 0 0) (.int .i64 0) (.int .i64 0) (.slice none 0 0) = W1 := ⟨_, rfl⟩
  rw [hW1] at z7 k1 k2 ⊢
  have a1 := Blk.set (j := 0) (u := .int .i64 at0) k1
  have a0 := z7.other (j := 0) (u := .int .i64 at0) n1
  have a2 := k2.other (j := 0) (u := .int .i64 at0) n3.symm
  have b2 := Blk.set (j := 0) (u := .int .i64 er) a2
  have b0 := a0.other (j := 0) (u := .int .i64 er) n2
  have b1 := a1.other (j := 0) (u := .int .i64 er) n3
  exact ⟨⟨b0.row⟩, ⟨b1.row⟩, ⟨b2.row⟩⟩
theorem caught_below (W : World) {pt pa pe B : Nat} {at0 er : Int} (b1 : B ≤ pt) (b2 : B ≤ pa) (b3 : B ≤ pe) (b4 : B ≤ W.heap.size) :
    Below B W ((((put7 W pt (.int .i64 0) (.int .i64 0) (.bool false) (.slice none 0 0) (.int .i64 0) (.int .i64 0) (.slice none 0 0)).setCell ⟨pa, 0, none⟩ (.int .i64 at0)).setCell ⟨pe, 0, none⟩ (.int .i64 er)).drew) := by
  have o7 : Off2 pt pt W (put7 W pt (.int .i64 0) (.int .i64 0) (.bool false) (.slice none 0 0) (.int .i64 0) (.int .i64 0) (.slice none 0 0)) :=
    ((((((Off2.setCell W pt pt 0 _).trans (Off2.setCell _ pt pt 1 _)).trans (Off2.setCell _ pt pt 2 _)).trans (Off2.setCell _ pt pt 3 _)).trans (Off2.setCell _ pt pt 4 _)).trans (Off2.setCell _ pt pt 5 _)).trans (Off2.setCell _ pt pt 6 _)
  have h1 := o7.below b1 b1 b4
  obtain ⟨W1, hW1⟩ : ∃ W1, put7 W pt (.int .i64 0) (.int .i64 0) (.bool false) (.slice none 0 0) (.int .i64 0) (.int .i64 0) (.slice none 0 0) = W1 := ⟨_, rfl⟩
  rw [hW1] at h1 ⊢
  have h2 := (Off2.setCell W1 pa pa 0 (.int .i64 at0)).below b2 b2 (Nat.le_trans b4 h1.size)
  have h3 := (Off2.setCell (W1.setCell ⟨pa, 0, none⟩ (.int .i64 at0)) pe pe 0 (.int .i64 er)).below b3 b3 (Nat.le_trans (Nat.le_trans b4 h1.size) h2.size)
  exact below_drewN ((h1.trans h2).trans h3) 1
set_option maxRecDepth 100000 in
set_option maxHeartbeats 1000000 in
theorem rx_caught (pt pa pe : Nat) (at0 er x y : Int) (older : List PanicEntry) (w : World) (tv : Array Value) (ht : Blk w pt tv 30) (h7 : tv.size = 7) (ha : Blk w pa #[.int .i64 x] 3) (he : Blk w pe #[.int .i64 y] 23) (n1 : pt ≠ pa) (n2 : pt ≠ pe) (n3 : pa ≠ pe) :
    CallsD Tryd.prog 12 #[.pointer (some ⟨pt, 0, none⟩), .pointer (some ⟨pa, 0, none⟩), .pointer (some ⟨pe, 0, none⟩)] (.panicking ({ v := .iface 44 (.agg #[.int .i64 at0, .int .i64 er]), recovered := false } :: older)) w fun e u' w' => e = .returned (.tuple #[]) ∧ u' = .panicking ({ v := .iface 44 (.agg #[.int .i64 at0, .int .i64 er]), recovered := true } :: older) ∧ (∀ B, B ≤ pt → B ≤ pa → B ≤ pe → B ≤ w.heap.size → Below B w w') ∧ Blk w' pt zero7 30 ∧ Blk w' pa #[.int .i64 at0] 3 ∧ Blk w' pe #[.int .i64 er] 23 := by
  refine callsD_of_wpS Tryd.func12 rfl fun c₀ cs hu => ?_
  apply wpS_seq
  apply wpS_region
  simp [wpOpsS, go_sem, recoverD, hu, Tryd.ntmps12, Exit.thenS]
  refine wpS_of_wp (wp_mono (Q := fun e a w' => e = .normal ∧ a.defers = [] ∧ (∀ B, B ≤ pt → B ≤ pa → B ≤ pe → B ≤ w.heap.size → Below B w w') ∧ Blk w' pt zero7 30 ∧ Blk w' pa #[.int .i64 at0] 3 ∧ Blk w' pe #[.int .i64 er] 23) ?_ ?_)
  · clear hu
    have hta : ∀ w, (Instr.typeAssert (.iface 44 (.agg #[.int .i64 at0, .int .i64 er])) 20 44 true).run Tryd.prog w = .ok (.tuple #[.agg #[.int .i64 at0, .int .i64 er], .bool true]) w := fun _ => rfl
    have htm : (#[.pointer (some ⟨pt, 0, none⟩), .pointer (some ⟨pa, 0, none⟩), .pointer (some ⟨pe, 0, none⟩)] ++ (Array.replicate 14 undef).setIfInBounds 3 (.iface 44 (.agg #[.int .i64 at0, .int .i64 er])) : Array Value) = #[.pointer (some ⟨pt, 0, none⟩), .pointer (some ⟨pa, 0, none⟩), .pointer (some ⟨pe, 0, none⟩), undef, undef, undef, .iface 44 (.agg #[.int .i64 at0, .int .i64 er]), undef, undef, undef, undef, undef, undef, undef, undef, undef, undef] := rfl
    rw [htm]
    clear htm
    go_wp2_with fail
    have lt := ht.lt
    have la := ha.lt
    have le := he.lt
    have F := Blk.new w #[.int .i64 at0, .int .i64 er] 44
    have ht' := ht.alloc (.cells #[.int .i64 at0, .int .i64 er] 44)
    have ha' := ha.alloc (.cells #[.int .i64 at0, .int .i64 er] 44)
    have he' := he.alloc (.cells #[.int .i64 at0, .int .i64 er] 44)
    obtain ⟨v0, v1, v2, v3, v4, v5, v6, rfl⟩ := seven_of h7
    have f0 := Blk.cell F 0
    have f1 := Blk.cell F 1
    obtain ⟨⟨q0, q1, q2, q3, q4, q5, q6⟩, r0, r1, r2, r3, r4, r5, r6⟩ := ht'.seven
    have a0 := Blk.cell ha' 0
    have e0 := Blk.cell he' 0
    have a1 := Blk.fro ha' 0
    have e1 := Blk.fro he' 0
    have m1 : pt ≠ w.heap.size := by omega
    have m2 : pa ≠ w.heap.size := by omega
    have m3 : pe ≠ w.heap.size := by omega
    obtain ⟨W, hW⟩ : ∃ W, w.alloc (.cells #[.int .i64 at0, .int .i64 er] 44) = W := ⟨_, rfl⟩
    rw [hW] at f0 f1 a0 e0 a1 e1 q0 q1 q2 q3 q4 q5 q6 r0 r1 r2 r3 r4 r5 r6 ⊢
    have HF0 : (Blk W pt #[v0, v1, v2, v3, v4, v5, v6] 30 ∧ Blk W pa #[.int .i64 x] 3 ∧ Blk W pe #[.int .i64 y] 23) := by rw [← hW]; exact ⟨ht', ha', he'⟩
    have HF := Lib.hid HF0
    have HBW : Below w.heap.size w W := by rw [← hW]; exact (Below.refl _ _).alloc (Nat.le_refl _) _
    have HB := Lib.hid HBW
    clear HBW
    clear HF0
    obtain ⟨g, hg⟩ : ∃ g, w.heap.size = g := ⟨_, rfl⟩
    rw [hg] at f0 f1 m1 m2 m3 ⊢
    clear hta ht ha he ht' ha' he' F hW hg lt la le h7
    simp at f0 f1 a0 e0
    go_region
    exact ⟨rfl, rfl, fun B b1 b2 b3 b4 => (HB.out.mono b4).trans (caught_below W b1 b2 b3 (Nat.le_trans b4 HB.out.size)), caught_end HF.out n1 n2 n3⟩
  · rintro e a w' ⟨rfl, h0, hB, h1, h2, h3⟩
    cases c₀
    simp_all [bodyPostS, results, Tryd.results12]
end Go.Proofs.YtmfcofiihopbfaaDoor

namespace Go.Proofs.YtmfcofiihopbfaaDoor
open Go.RowKit Go.Lib

theorem TrV.at {w : World} {P : Nat → Prop} {l : List Tr} {A : Option Addr} (h : Tr.Ins w P l A 0) (j : Nat) (t : Tr) (hj : l[j]? = some t) : ∃ (g : Nat) (kind code : Int) (neg : Bool) (A3 : Option Addr) (n3 c3 : Nat) (lo hi : Int) (A2 : Option Addr) (n2 c2 : Nat), A = some ⟨g, 0, none⟩ ∧
    (w.cell? ⟨g, j * 7, none⟩ = some (.int .i64 kind) ∧ w.cell? ⟨g, j * 7 + 1, none⟩ = some (.int .i64 code) ∧ w.cell? ⟨g, j * 7 + 2, none⟩ = some (.bool neg) ∧ w.cell? ⟨g, j * 7 + 3, none⟩ = some (.slice A3 n3 c3) ∧ w.cell? ⟨g, j * 7 + 4, none⟩ = some (.int .i64 lo) ∧ w.cell? ⟨g, j * 7 + 5, none⟩ = some (.int .i64 hi) ∧ w.cell? ⟨g, j * 7 + 6, none⟩ = some (.slice A2 n2 c2)) ∧
    TrV w P t #[.int .i64 kind, .int .i64 code, .bool neg, .slice A3 n3 c3, .int .i64 lo, .int .i64 hi, .slice A2 n2 c2] := by
  obtain ⟨g, rfl, hp, ht⟩ := h.at j t hj
  simp only [Nat.zero_add] at ht
  obtain ⟨kind, code, neg, set, lo, hi, kids⟩ := t
  rw [Tr.In] at ht
  obtain ⟨sv, A2, c2, t0, t1, t2, t3, t4, t5, t6, hn, hR, hJ⟩ := ht
  obtain ⟨A3, c3, rfl⟩ := rx_store_set hR
  exact ⟨g, kind, code, neg, A3, _, c3, lo, hi, A2, _, c2, rfl, ⟨t0, t1, t2, t3, t4, t5, t6⟩, TrV.mk hn hR hJ⟩
set_option maxRecDepth 100000 in
set_option maxHeartbeats 4000000 in
/-- Weight, of trees no greater than so. -/
theorem rx_weight_n : ∀ (N : Nat) (t : Tr) (P : Nat → Prop) (vs : Array Value) (W : World), SizeOf.sizeOf t ≤ N → TrV W P t vs → Calls Tryd.prog 10 #[.agg vs] W fun e w' => e = .returned (.int .i64 t.wt) ∧ Below W.heap.size W w'
  | 0, t, _, _, _, h, _ => by cases t; simp at h
  | N + 1, .mk kind code neg set lo hi kids, P, vs, W, hN, h => by
    obtain ⟨sv, A, cap, rfl, hkl, hR, hI⟩ := h.open
    obtain ⟨A3, c3, rfl⟩ := rx_store_set hR
    have hb0 := (Below.refl W.heap.size W).alloc (Nat.le_refl _) (.cells #[.int .i64 kind, .int .i64 code, .bool neg, .slice A3 set.length c3, .int .i64 lo, .int .i64 hi, .slice A kids.length cap] 30)
    have F0 := Blk.new W #[.int .i64 kind, .int .i64 code, .bool neg, .slice A3 set.length c3, .int .i64 lo, .int .i64 hi, .slice A kids.length cap] 30
    have IH := Lib.hid (fun (t : Tr) (ht : t ∈ kids) (vs : Array Value) (w : World) (hv : TrV w (fun g => g < W.heap.size ∧ P g) t vs) => rx_weight_n N t _ vs w (by have := size_kid (kind := kind) (code := code) (neg := neg) (set := set) (lo := lo) (hi := hi) ht; omega) hv)
    have HKI := Lib.hid (fun (w : World) (hb : Below W.heap.size W w) => Tr.Ins.keep (w' := w) (P' := fun g => g < W.heap.size ∧ P g) (fun g hg hp => ⟨⟨hg, hp⟩, hb.block g hg⟩) kids A 0 hI)
    obtain ⟨W0, hW0⟩ : ∃ W0, W.alloc (.cells #[.int .i64 kind, .int .i64 code, .bool neg, .slice A3 set.length c3, .int .i64 lo, .int .i64 hi, .slice A kids.length cap] 30) = W0 := ⟨_, rfl⟩
    rw [hW0] at hb0 F0
    have HF := Lib.hid F0
    have HB0 := Lib.hid hb0
    have hs0 := hb0.size
    obtain ⟨⟨c0, c1, c2, c3', c4, c5, c6⟩, _⟩ := F0.seven
    rw [Tr.wt]
    have hwb := wts_in kids 0 (Int.le_refl _) (by omega)
    obtain ⟨S, hS⟩ : ∃ S, Tr.wts 0 kids = S := ⟨_, rfl⟩
    rw [hS] at hwb ⊢
    have HS := Lib.hid hS
    obtain ⟨V, hV⟩ : ∃ V, (if kind = 5 then S else if kind = 7 then min (S * min (if hi < 0 then min (max 0 lo) 1048576 + 1 else hi) 1048576 + 1) 1048576 else min (S + 1) 1048576) = V := ⟨_, rfl⟩
    rw [hV]
    have HV := Lib.hid hV
    obtain ⟨ml, hml⟩ : ∃ ml, kids.length = ml := ⟨_, rfl⟩
    rw [hml] at c6 hkl
    have HML := Lib.hid hml
    clear h hR hI hb0 F0 hS hN hml hV
    go_enter Tryd.func10, Tryd.ntmps10
    go_wp2_with fail
    clear hW0
    go_loopw [3, 10] (fun sv kv wr => ∃ k : Nat, sv = .int .i64 (Tr.wts 0 (kids.take k)) ∧ kv = .int .i64 (k : Int) ∧ k ≤ ml ∧ Below W0.heap.size W0 wr) (fun _ kv _ => ml - (RowKit.intOf kv).toNat)
    case atStart => exact ⟨0, by simp [Tr.wts], rfl, Nat.zero_le _, Below.refl _ _⟩
    case round =>
      obtain ⟨k, rfl, rfl, hk, hB⟩ := hrel
      have HB := Lib.hid hB
      have hwk := wts_in (kids.take k) 0 (Int.le_refl _) (by omega)
      by_cases hlt : k < ml
      · have hkl2 : k < kids.length := by rw [HML.out]; exact hlt
        obtain ⟨t, ht⟩ : ∃ t, kids[k] = t := ⟨_, rfl⟩
        have hmem : t ∈ kids := by rw [← ht]; exact List.getElem_mem hkl2
        have hn : Tr.wts 0 (kids.take (k + 1)) = min (Tr.wts 0 (kids.take k) + t.wt) 1048576 := by
          rw [List.take_succ_eq_append_getElem hkl2, wts_snoc, ht]
        have HN := Lib.hid hn
        have hwt := wt_in t
        obtain ⟨g, kind1, code1, neg1, A31, n31, c31, lo1, hi1, A21, n21, c21, hA, ⟨u0, u1, u2, u3, u4, u5, u6⟩, hT⟩ := TrV.at (HKI.out wr (HB0.out.trans (hB.mono hs0))) k t (by rw [List.getElem?_eq_getElem hkl2, ht])
        subst hA
        have CW := Lib.hid (fun (w : World) (hb : Below wr.heap.size wr w) => IH.out t hmem _ w (hT.kept (fun g hg hp => ⟨hp, hb.block g hg⟩)))
        obtain ⟨a, ha⟩ : ∃ a, Tr.wts 0 (kids.take k) = a := ⟨_, rfl⟩
        obtain ⟨b, hb⟩ : ∃ b, t.wt = b := ⟨_, rfl⟩
        have CW := Lib.hid (fun (w : World) (hb2 : Below wr.heap.size wr w) => hb ▸ CW.out w hb2)
        rw [ha] at hwk
        rw [ha, hb] at HN
        rw [hb] at hwt
        have hw1 : IntKind.i64.wrap (a + b) = a + b := by simp [IntKind.wrap, IntKind.bits, IntKind.signed]; omega
        obtain ⟨k1, hk1⟩ : ∃ k1, k + 1 = k1 := ⟨_, rfl⟩
        have hw2 : IntKind.i64.wrap ((k : Int) + 1) = (k1 : Int) := by simp [IntKind.wrap, IntKind.bits, IntKind.signed]; omega
        rw [hk1] at HN
        rw [ha]
        clear hn ht hmem hT ha hb hkl2 hB
        go_wp2_with fail
        refine (CW.out _ ((Below.refl _ _).alloc (Nat.le_refl _) _)).mono ?_
        rintro e w2 ⟨rfl, hb2⟩
        have HB2 := Lib.hid (HB.out.trans ((((Below.refl wr.heap.size wr).alloc (Nat.le_refl _) (.cells #[.int .i64 kind1, .int .i64 code1, .bool neg1, .slice A31 n31 c31, .int .i64 lo1, .int .i64 hi1, .slice A21 n21 c21] 30)).trans (hb2.mono (by simp))).mono HB.out.size))
        clear hb2 CW
        go_wp2_with fail
        refine ⟨⟨k1, by rw [HN.out], rfl, by omega, HB2.out⟩, ?_⟩
        simp [RowKit.intOf]
        omega
      · have hkn : kids.take k = kids := List.take_of_length_le (by rw [HML.out]; omega)
        rw [hkn, HS.out] at hwk ⊢
        have FIN := Lib.hid (HB0.out.trans (hB.mono hs0))
        obtain ⟨⟨d0, d1, d2, d3, d4, d5, d6⟩, _⟩ := (HF.out.below hB HF.out.lt).seven
        clear hkn hB IH HKI
        by_cases k5 : kind = 5
        · have hv := Lib.hid (show V = S by rw [← HV.out, if_pos k5])
          subst k5
          go_wp2_with fail
          go_ret
          exact ⟨by rw [hv.out]; rfl, FIN.out⟩
        have b5 : (kind == 5) = false := by rw [beq_eq_false_iff_ne]; exact k5
        by_cases k7 : kind = 7
        · have hv1 := HV.out
          rw [if_neg k5, if_pos k7] at hv1
          subst k7
          obtain ⟨m, hm⟩ : ∃ m, min (if hi < 0 then min (max 0 lo) 1048576 + 1 else hi) 1048576 = m := ⟨_, rfl⟩
          have m0 : 0 ≤ m ∧ m ≤ 1048576 := by
            rw [← hm]
            split <;> omega
          have hp0 : 0 ≤ S * m := Int.mul_nonneg hwk.1 m0.1
          have hp1 : S * m ≤ 1048576 * 1048576 := Int.mul_le_mul hwk.2 m0.2 m0.1 (by omega)
          obtain ⟨pr, hpr⟩ : ∃ pr, S * m = pr := ⟨_, rfl⟩
          rw [hm, hpr] at hv1
          have hv := Lib.hid hv1.symm
          rw [hpr] at hp0 hp1
          clear hv1
          have hw1 : IntKind.i64.wrap pr = pr := by simp [IntKind.wrap, IntKind.bits, IntKind.signed]; omega
          have hw2 : IntKind.i64.wrap (pr + 1) = pr + 1 := by simp [IntKind.wrap, IntKind.bits, IntKind.signed]; omega
          by_cases hh : hi < 0
          · rw [if_pos hh] at hm
            have hw0 : IntKind.i64.wrap (min (max 0 lo) 1048576 + 1) = min (max 0 lo) 1048576 + 1 := by simp [IntKind.wrap, IntKind.bits, IntKind.signed]; omega
            clear k5
            go_wp2_with fail
            go_ret
            exact ⟨by rw [hv.out]; rfl, FIN.out⟩
          · rw [if_neg hh] at hm
            clear k5
            go_wp2_with fail
            go_ret
            exact ⟨by rw [hv.out]; rfl, FIN.out⟩
        · have hv := Lib.hid (show V = min (S + 1) 1048576 by rw [← HV.out, if_neg k5, if_neg k7])
          have b7 : (kind == 7) = false := by rw [beq_eq_false_iff_ne]; exact k7
          have hw2 : IntKind.i64.wrap (S + 1) = S + 1 := by simp [IntKind.wrap, IntKind.bits, IntKind.signed]; omega
          clear k5 k7
          go_wp2_with fail
          go_ret
          exact ⟨by rw [hv.out]; rfl, FIN.out⟩
theorem rx_weight {W : World} {P : Nat → Prop} {t : Tr} {vs : Array Value} (h : TrV W P t vs) : Calls Tryd.prog 10 #[.agg vs] W fun e w' => e = .returned (.int .i64 t.wt) ∧ Below W.heap.size W w' := rx_weight_n _ t P vs W (Nat.le_refl _) h
end Go.Proofs.YtmfcofiihopbfaaDoor

namespace Go.Proofs.YtmfcofiihopbfaaDoor
open Go.RowKit Go.Lib

/-- What the whole of a pattern is. -/
def whF (s : ByteArray) (b : Bool) : Rs Tr := match chD s b 40 0 with
  | .bad k e => .bad k e
  | .ok t k => if k = s.size then if 200 < t.wt then .bad 0 91 else .ok t k else .bad k 90
theorem parse_wh (s : ByteArray) (b : Bool) (h : s.size ≤ 1024) : rxParse s b = match whF s b with | .bad k e => (trZ, k, e) | .ok t _ => (t, 0, 0) := by
  rw [rxParse, if_neg (by omega), whF]
  cases chD s b 40 0 with
  | bad k e => rfl
  | ok t k =>
    dsimp only
    split
    · split <;> rfl
    · rfl
set_option maxRecDepth 100000 in
set_option maxHeartbeats 1500000 in
theorem rx_whole {W : World} {pb : Nat} {s : ByteArray} {b : Bool} (h : Prs W pb s b 0 0) (hs : s.size ≤ 1024) (hE : Env W pb) :
    Calls Tryd.prog 13 #[pbP pb] W (RxOut (gTr W.heap.size) pb s b 0 W (whF s b)) := by
  have hlt := Blk.lt h
  have F0 := Blk.new W zero7 30
  have S0 := (Stp.refl h).alloc (.cells zero7 30)
  have hE0 := hE.step S0 hlt
  have hsz0 : (W.alloc (.cells zero7 30)).heap.size = W.heap.size + 1 := by simp
  obtain ⟨W0, hW0⟩ : ∃ W0, W.alloc (.cells zero7 30) = W0 := ⟨_, rfl⟩
  rw [hW0] at F0 S0 hE0 hsz0
  have hlt0 : pb < W0.heap.size := by omega
  have hsA : W.heap.size < W0.heap.size := by omega
  have hneB : pb ≠ W.heap.size := by omega
  clear hsz0
  have CW := Lib.hid (fun a W => rx_wrong pb a W)
  have CB := Lib.hid (fun W => rx_big pb 0 W)
  have CC := rx_choice (rx_group s b 40) (Nat.zero_add 40) S0.prs (Nat.zero_le _) hs hE0
  have HS0 := Lib.hid S0
  have HKF := Lib.hid (fun (w : World) (j m : Nat) (hS : Stp pb s b j m W0 w) => show Blk w W.heap.size zero7 30 from ⟨(hS.off.block _ F0.lt (Ne.symm hneB) (Ne.symm hneB)).trans F0.row⟩)
  have CI := Lib.hid (fun (x : Tr) (k : Nat) (hh : chD s b 40 0 = .ok x k) => chD_in (Nat.zero_le _) hh)
  rw [whF]
  clear h hE hE0 S0 F0
  cases hQ : chD s b 40 0 with
  | bad ka er =>
    rw [hQ] at CC
    have CC := Lib.hid CC
    clear hQ CI
    go_enter Tryd.func13, Tryd.ntmps13
    go_wp2_with fail
    refine CC.out.mono ?_
    rintro e w2 ⟨rfl, hO⟩
    have HO := Lib.hid hO
    clear hO CC hW0
    go_wp2_with fail
    exact ⟨rfl, rfl, HS0.out.off.trans HO.out⟩
  | ok t k =>
    have hk := CI.out t k hQ
    rw [hQ] at CC
    have CC := Lib.hid CC
    obtain ⟨p, hp⟩ : ∃ p, ((k : Int) == (s.size : Int)) = p := ⟨_, rfl⟩
    have CE := Lib.hid (fun w (hS : Stp pb s b k 0 W0 w) => rx_ended hS.prs p hp)
    dsimp only
    clear hQ CI
    cases p with
    | false =>
      have hne : ¬ k = s.size := by rw [beq_eq_false_iff_ne] at hp; omega
      rw [if_neg hne]
      clear hne hp
      go_enter Tryd.func13, Tryd.ntmps13
      go_wp2_with fail
      refine CC.out.mono ?_
      rintro e w2 ⟨vv, rfl, ⟨vs, rfl, ht⟩, hS2⟩
      obtain ⟨kind, code, neg, A3, n3, c3, lo, hi', A2, n2, c2, rfl⟩ := ht.form
      have S2 := hS2.alloc (.cells #[.int .i64 kind, .int .i64 code, .bool neg, .slice A3 n3 c3, .int .i64 lo, .int .i64 hi', .slice A2 n2 c2] 30)
      have HS2 := Lib.hid S2
      clear hS2 S2 ht CC hW0
      go_wp2_with fail
      refine (CE.out _ HS2.out).mono ?_
      rintro e w3 ⟨rfl, hS⟩
      have S3 := HS2.out.trans hS
      have HS3 := Lib.hid S3
      obtain ⟨_, _, q2, _, _, _⟩ := S3.prs.four
      clear hS S3 CE
      go_wp2_with fail
      refine (CW.out _ _).mono ?_
      rintro e w4 ⟨rfl, rfl⟩
      go_wp2_with fail
      exact ⟨rfl, rfl, HS0.out.off.trans HS3.out.off⟩
    | true =>
      have he : k = s.size := by
        have := eq_of_beq hp
        omega
      rw [if_pos he]
      clear he hp
      have HWT := Lib.hid (fun (w : World) (vs : Array Value) (P : Nat → Prop) (h : TrV w P t vs) => rx_weight h)
      obtain ⟨wt, hwt⟩ : ∃ wt, t.wt = wt := ⟨_, rfl⟩
      have HWT := Lib.hid (fun (w : World) (vs : Array Value) (P : Nat → Prop) (h : TrV w P t vs) => hwt ▸ HWT.out w vs P h)
      rw [hwt]
      clear hwt
      by_cases hbig : 200 < wt
      · rw [if_pos hbig]
        go_enter Tryd.func13, Tryd.ntmps13
        go_wp2_with fail
        refine CC.out.mono ?_
        rintro e w2 ⟨vv, rfl, ⟨vs, rfl, ht⟩, hS2⟩
        obtain ⟨kind, code, neg, A3, n3, c3, lo, hi', A2, n2, c2, rfl⟩ := ht.form
        have hs2 := hS2.off.size
        have S2 := hS2.alloc (.cells #[.int .i64 kind, .int .i64 code, .bool neg, .slice A3 n3 c3, .int .i64 lo, .int .i64 hi', .slice A2 n2 c2] 30)
        have FT := Blk.new w2 #[.int .i64 kind, .int .i64 code, .bool neg, .slice A3 n3 c3, .int .i64 lo, .int .i64 hi', .slice A2 n2 c2] 30
        have hbT := (Below.refl w2.heap.size w2).alloc (Nat.le_refl _) (.cells #[.int .i64 kind, .int .i64 code, .bool neg, .slice A3 n3 c3, .int .i64 lo, .int .i64 hi', .slice A2 n2 c2] 30)
        have HS2 := Lib.hid S2
        have HT := Lib.hid (ht.kept (P' := fun c => W0.heap.size ≤ c ∧ c < w2.heap.size) (w' := w2.alloc (.cells #[.int .i64 kind, .int .i64 code, .bool neg, .slice A3 n3 c3, .int .i64 lo, .int .i64 hi', .slice A2 n2 c2] 30)) (fun g hg hp => ⟨⟨hp, hg⟩, hbT.block g hg⟩))
        have HFT := Lib.hid FT
        clear hS2 S2 ht CC hW0 FT hbT
        go_wp2_with fail
        refine (CE.out _ HS2.out).mono ?_
        rintro e w3 ⟨rfl, hS⟩
        have hS : Stp pb s b k 0 (w2.alloc (.cells #[.int .i64 kind, .int .i64 code, .bool neg, .slice A3 n3 c3, .int .i64 lo, .int .i64 hi', .slice A2 n2 c2] 30)) w3 := hS
        have S3 := HS2.out.trans hS
        have pbne : pb < w2.heap.size := by omega
        have FT3 : Blk w3 w2.heap.size #[.int .i64 kind, .int .i64 code, .bool neg, .slice A3 n3 c3, .int .i64 lo, .int .i64 hi', .slice A2 n2 c2] 30 := ⟨(hS.off.block _ HFT.out.lt (by omega) (by omega)).trans HFT.out.row⟩
        have HT3 := HT.out.kept (w' := w3) (P' := fun c => W0.heap.size ≤ c ∧ c < w3.heap.size) (fun g hg hp => ⟨⟨hp.1, Nat.lt_of_lt_of_le hg hS.off.size⟩, hS.off.block g hg (by omega) (by omega)⟩)
        have CWT := Lib.hid (HWT.out _ _ _ HT3)
        have HS3 := Lib.hid S3
        obtain ⟨⟨t0, t1, t2, t3, t4, t5, t6⟩, _⟩ := FT3.seven
        clear hS S3 FT3 HT3 HT HFT HWT CE pbne hs2
        go_wp2_with fail
        refine CWT.out.mono ?_
        rintro e w4 ⟨rfl, hb4⟩
        clear t0 t1 t2 t3 t4 t5 t6
        have HS4 := Lib.hid (HS3.out.below hb4)
        have hq : decide (200 < wt) = true := by
          rw [decide_eq_true_iff]
          exact hbig
        clear hb4
        go_wp2_with fail
        refine (CB.out _).mono ?_
        rintro e w5 ⟨rfl, rfl⟩
        go_wp2_with fail
        exact ⟨rfl, rfl, HS0.out.off.trans HS4.out.off⟩
      · rw [if_neg hbig]
        go_enter Tryd.func13, Tryd.ntmps13
        go_wp2_with fail
        refine CC.out.mono ?_
        rintro e w2 ⟨vv, rfl, ⟨vs, rfl, ht⟩, hS2⟩
        obtain ⟨kind, code, neg, A3, n3, c3, lo, hi', A2, n2, c2, rfl⟩ := ht.form
        have hs2 := hS2.off.size
        have S2 := hS2.alloc (.cells #[.int .i64 kind, .int .i64 code, .bool neg, .slice A3 n3 c3, .int .i64 lo, .int .i64 hi', .slice A2 n2 c2] 30)
        have FT := Blk.new w2 #[.int .i64 kind, .int .i64 code, .bool neg, .slice A3 n3 c3, .int .i64 lo, .int .i64 hi', .slice A2 n2 c2] 30
        have hbT := (Below.refl w2.heap.size w2).alloc (Nat.le_refl _) (.cells #[.int .i64 kind, .int .i64 code, .bool neg, .slice A3 n3 c3, .int .i64 lo, .int .i64 hi', .slice A2 n2 c2] 30)
        have HS2 := Lib.hid S2
        have HT := Lib.hid (ht.kept (P' := fun c => W0.heap.size ≤ c ∧ c < w2.heap.size) (w' := w2.alloc (.cells #[.int .i64 kind, .int .i64 code, .bool neg, .slice A3 n3 c3, .int .i64 lo, .int .i64 hi', .slice A2 n2 c2] 30)) (fun g hg hp => ⟨⟨hp, hg⟩, hbT.block g hg⟩))
        have HFT := Lib.hid FT
        clear hS2 S2 ht CC hW0 FT hbT
        go_wp2_with fail
        refine (CE.out _ HS2.out).mono ?_
        rintro e w3 ⟨rfl, hS⟩
        have hS : Stp pb s b k 0 (w2.alloc (.cells #[.int .i64 kind, .int .i64 code, .bool neg, .slice A3 n3 c3, .int .i64 lo, .int .i64 hi', .slice A2 n2 c2] 30)) w3 := hS
        have S3 := HS2.out.trans hS
        have pbne : pb < w2.heap.size := by omega
        have FT3 : Blk w3 w2.heap.size #[.int .i64 kind, .int .i64 code, .bool neg, .slice A3 n3 c3, .int .i64 lo, .int .i64 hi', .slice A2 n2 c2] 30 := ⟨(hS.off.block _ HFT.out.lt (by omega) (by omega)).trans HFT.out.row⟩
        have HT3 := HT.out.kept (w' := w3) (P' := fun c => W0.heap.size ≤ c ∧ c < w3.heap.size) (fun g hg hp => ⟨⟨hp.1, Nat.lt_of_lt_of_le hg hS.off.size⟩, hS.off.block g hg (by omega) (by omega)⟩)
        have CWT := Lib.hid (HWT.out _ _ _ HT3)
        have HS3 := Lib.hid S3
        have HT3h := Lib.hid HT3
        have HFT3 := Lib.hid FT3
        obtain ⟨⟨t0, t1, t2, t3, t4, t5, t6⟩, _⟩ := FT3.seven
        clear hS S3 FT3 HT3 HT HFT HWT CE pbne hs2
        go_wp2_with fail
        refine CWT.out.mono ?_
        rintro e w4 ⟨rfl, hb4⟩
        clear t0 t1 t2 t3 t4 t5 t6
        have S4 := HS3.out.below hb4
        have F4 := HKF.out _ _ _ S4
        have FT4 := HFT3.out.below hb4 HFT3.out.lt
        have HT4 := HT3h.out.kept (w' := w4) (P' := fun c => W0.heap.size ≤ c) (fun g hg hp => ⟨hp.1, hb4.block g hg⟩)
        have FIN := Lib.hid (node_put (HS0.out.trans S4) F4 HT4 hsA)
        obtain ⟨z7, _⟩ := rx_end7 (.int .i64 kind) (.int .i64 code) (.bool neg) (.slice A3 n3 c3) (.int .i64 lo) (.int .i64 hi') (.slice A2 n2 c2) F4
        obtain ⟨⟨y0, y1, y2, y3, y4, y5, y6⟩, _⟩ := z7.seven
        obtain ⟨⟨k0, k1, k2, k3, k4, k5, k6⟩, f0, f1, f2, f3', f4, f5, f6⟩ := F4.seven
        obtain ⟨⟨t0, t1, t2, t3, t4, t5, t6⟩, _⟩ := FT4.seven
        unfold put7 at y0 y1 y2 y3 y4 y5 y6
        clear F4 z7 S4 FT4 HT4 HKF CWT hb4
        have hq : decide (200 < wt) = false := by
          rw [decide_eq_false_iff_not]
          omega
        dsimp only
        iterate 7 (first | go_values | go_skip | go_guarded | go_step | go_upon | go_back)
        clear hq hbig
        go_wp2_with fail
        exact bodyPost_ret (v := .agg #[.int .i64 kind, .int .i64 code, .bool neg, .slice A3 n3 c3, .int .i64 lo, .int .i64 hi', .slice A2 n2 c2]) (by simp [results, Tryd.results13, go_sem, y0, y1, y2, y3, y4, y5, y6]) rfl FIN.out
end Go.Proofs.YtmfcofiihopbfaaDoor

namespace Go.Proofs.YtmfcofiihopbfaaDoor
open Go.RowKit Go.Lib

/-- What Parse leans on. -/
structure REnv (W : World) : Prop where
  tabs : Utf8Tabs 0 1 W
  mx : ∃ m, W.cell? ⟨2, 0, none⟩ = some (.int .i64 m)
theorem REnv.far {W : World} (h : REnv W) : 0 < W.heap.size ∧ 1 < W.heap.size ∧ 2 < W.heap.size := by
  obtain ⟨m, hm⟩ := h.mx
  exact ⟨World.block_lt_of_cell? W _ (h.tabs.1 0 (by omega)), World.block_lt_of_cell? W _ (h.tabs.2 0 (by omega)).1, World.block_lt_of_cell? W _ hm⟩
theorem REnv.env {W X : World} (h : REnv W) (hb : Below W.heap.size W X) {pb : Nat} (hp : W.heap.size ≤ pb) : Env X pb := by
  obtain ⟨m, hm⟩ := h.mx
  obtain ⟨f1, f2, f3⟩ := h.far
  exact ⟨tabs_sub h.tabs hb f1 f2, ⟨m, (hb.cell (p := ⟨2, 0, none⟩) f3).trans hm⟩, by omega, by omega, by omega⟩
theorem REnv.kept {W X : World} (h : REnv W) (hb : Below W.heap.size W X) : REnv X := by
  obtain ⟨m, hm⟩ := h.mx
  obtain ⟨f1, f2, f3⟩ := h.far
  exact ⟨tabs_sub h.tabs hb f1 f2, ⟨m, (hb.cell (p := ⟨2, 0, none⟩) f3).trans hm⟩⟩
/-- What Parse hands back. -/
def PrsOut (W : World) (r : Tr × Nat × Int) (e : Ending) (w' : World) : Prop :=
  ∃ vs, e = .returned (.tuple #[.agg vs, .int .i64 (r.2.1 : Int), .int .i64 r.2.2]) ∧ TrV w' (fun c => W.heap.size ≤ c) r.1 vs ∧ Below W.heap.size W w'
abbrev psW (W : World) (s : ByteArray) (b : Bool) : World := (((W.alloc (.cells zero7 30)).alloc (.cells #[.int .i64 0] 3)).alloc (.cells #[.int .i64 0] 23)).alloc (.cells #[.string s, .bool b, .int .i64 0, .int .i64 0] 46)
set_option maxRecDepth 100000 in
set_option maxHeartbeats 1500000 in
theorem rx_parse {s : ByteArray} (hs : s.size ≤ 1024) (b : Bool) {W : World} (hE : REnv W) :
    Calls Tryd.prog 8 #[.string s, .bool b] W (PrsOut W (rxParse s b)) := by
  have hmf : ∀ (fn : Fn) (first cap : Array Value) (w : World), (Instr.makeFunc fn first cap).run Tryd.prog w = .ok (.func fn first cap) w := fun _ _ _ _ => rfl
  have hB : Below W.heap.size W (psW W s b) := ((((Below.refl W.heap.size W).alloc (Nat.le_refl _) _).alloc (by simp) _).alloc (by simp; omega) _).alloc (by simp; omega) _
  have P4 : Prs (psW W s b) (W.heap.size + 3) s b 0 0 := by
    have := Blk.new (((W.alloc (.cells zero7 30)).alloc (.cells #[.int .i64 0] 3)).alloc (.cells #[.int .i64 0] 23)) #[.string s, .bool b, .int .i64 0, .int .i64 0] 46
    simpa [Prs] using this
  have bt : Blk (psW W s b) W.heap.size zero7 30 := ((Blk.new W zero7 30).alloc _).alloc _ |>.alloc _
  have ba : Blk (psW W s b) (W.heap.size + 1) #[.int .i64 0] 3 := by
    have := ((Blk.new (W.alloc (.cells zero7 30)) #[.int .i64 0] 3).alloc (.cells #[.int .i64 0] 23)).alloc (.cells #[.string s, .bool b, .int .i64 0, .int .i64 0] 46)
    simpa using this
  have be : Blk (psW W s b) (W.heap.size + 2) #[.int .i64 0] 23 := by
    have := (Blk.new ((W.alloc (.cells zero7 30)).alloc (.cells #[.int .i64 0] 3)) #[.int .i64 0] 23).alloc (.cells #[.string s, .bool b, .int .i64 0, .int .i64 0] 46)
    simpa using this
  have hz : (psW W s b).heap.size = W.heap.size + 4 := by simp
  have CWh := rx_whole P4 hs (hE.env hB (by omega))
  have hlen : decide (1024 < (s.size : Int)) = false := by rw [decide_eq_false_iff_not]; omega
  rw [parse_wh s b hs]
  cases hQ : whF s b with
  | bad k er =>
    rw [hQ] at CWh
    have CWh := Lib.hid CWh
    have HB := Lib.hid hB
    have HBT := Lib.hid bt
    have HBA := Lib.hid ba
    have HBE := Lib.hid be
    have HZ := Lib.hid hz
    clear hQ hE hB P4 bt ba be hz
    go_enter_defers Tryd.func8, Tryd.ntmps8
    go_wp2_with fail
    refine CWh.out.mono ?_
    rintro e w2 ⟨rfl, hO⟩
    have hz4 := HZ.out
    have ht := HBT.out.off2 hO (by omega) (by omega)
    have ha := HBA.out.off2 hO (by omega) (by omega)
    have he := HBE.out.off2 hO (by omega) (by omega)
    have hb2 := HB.out.trans (hO.below (by omega) (by omega) (by omega))
    refine leaves_cons (f := 12) (args := #[.pointer (some ⟨W.heap.size, 0, none⟩), .pointer (some ⟨W.heap.size + 1, 0, none⟩), .pointer (some ⟨W.heap.size + 2, 0, none⟩)]) (by simp) (by simp [go_sem]) ?_
    refine (rx_caught W.heap.size (W.heap.size + 1) (W.heap.size + 2) (k : Int) er 0 0 [] w2 zero7 ht rfl ha he (by omega) (by omega) (by omega)).mono ?_
    rintro e u' w3 ⟨rfl, rfl, hBB, bt, ba, be⟩
    have hb3 := hb2.trans (hBB W.heap.size (Nat.le_refl _) (by omega) (by omega) hb2.size)
    obtain ⟨⟨t0, t1, t2, t3, t4, t5, t6⟩, _⟩ := bt.seven
    have a0 := ba.cell 0
    have e0 := be.cell 0
    simp only [List.getElem?_toArray, List.getElem?_cons_zero] at a0 e0
    show Leaves _ _ _ _ [] .returning w3
    exact ⟨.tuple #[.agg zero7, .int .i64 (k : Int), .int .i64 er], by simp [results, Tryd.results8, go_sem, t0, t1, t2, t3, t4, t5, t6, a0, e0], zero7, rfl, TrV.leaf _ _ 0 0 false 0 0, hb3⟩
  | ok t k =>
    rw [hQ] at CWh
    have CWh := Lib.hid CWh
    have HB := Lib.hid hB
    have HBT := Lib.hid bt
    have HBA := Lib.hid ba
    have HBE := Lib.hid be
    have HZ := Lib.hid hz
    clear hQ hE hB P4 bt ba be hz
    go_enter_defers Tryd.func8, Tryd.ntmps8
    go_wp2_with fail
    refine CWh.out.mono ?_
    rintro e w2 ⟨vv, rfl, ⟨vs, rfl, hT⟩, hS⟩
    obtain ⟨kind, code, neg, A3, n3', c3, lo, hi', A2, n2', c2', rfl⟩ := hT.form
    have hz4 := HZ.out
    have hO := hS.off
    have hs2 := hO.size
    have ht := HBT.out.off2 hO (by omega) (by omega)
    have ha := HBA.out.off2 hO (by omega) (by omega)
    have he := HBE.out.off2 hO (by omega) (by omega)
    have hb2 := HB.out.trans (hO.below (by omega) (by omega) (by omega))
    obtain ⟨⟨x0, x1, x2, x3, x4, x5, x6⟩, f0, f1, f2, f3, f4, f5, f6⟩ := ht.seven
    have a0 := ha.cell 0
    have e0 := he.cell 0
    have g0 := ha.fro 0
    have g1 := he.fro 0
    simp only [List.getElem?_toArray, List.getElem?_cons_zero] at a0 e0
    have n1 : W.heap.size ≠ W.heap.size + 1 := by omega
    have n2 : W.heap.size ≠ W.heap.size + 2 := by omega
    have n3 : W.heap.size + 1 ≠ W.heap.size + 2 := by omega
    obtain ⟨z7, o7⟩ := rx_end7 (.int .i64 kind) (.int .i64 code) (.bool neg) (.slice A3 n3' c3) (.int .i64 lo) (.int .i64 hi') (.slice A2 n2' c2') ht
    have k1 := ha.off2 o7 n1.symm n1.symm
    have k2 := he.off2 o7 n2.symm n2.symm
    have c1 := Blk.set (j := 0) (u := .int .i64 0) k1
    have c0 := z7.other (j := 0) (u := .int .i64 0) n1
    have c2 := k2.other (j := 0) (u := .int .i64 0) n3.symm
    have d2 := Blk.set (j := 0) (u := .int .i64 0) c2
    have d0 := c0.other (j := 0) (u := .int .i64 0) n2
    have d1 := c1.other (j := 0) (u := .int .i64 0) n3
    have o1 := Off2.setCell (put7 w2 W.heap.size (.int .i64 kind) (.int .i64 code) (.bool neg) (.slice A3 n3' c3) (.int .i64 lo) (.int .i64 hi') (.slice A2 n2' c2')) (W.heap.size + 1) (W.heap.size + 1) 0 (.int .i64 0)
    have o2 := Off2.setCell ((put7 w2 W.heap.size (.int .i64 kind) (.int .i64 code) (.bool neg) (.slice A3 n3' c3) (.int .i64 lo) (.int .i64 hi') (.slice A2 n2' c2')).setCell ⟨W.heap.size + 1, 0, none⟩ (.int .i64 0)) (W.heap.size + 2) (W.heap.size + 2) 0 (.int .i64 0)
    have FIN : TrV (((put7 w2 W.heap.size (.int .i64 kind) (.int .i64 code) (.bool neg) (.slice A3 n3' c3) (.int .i64 lo) (.int .i64 hi') (.slice A2 n2' c2')).setCell ⟨W.heap.size + 1, 0, none⟩ (.int .i64 0)).setCell ⟨W.heap.size + 2, 0, none⟩ (.int .i64 0)) (fun c => W.heap.size ≤ c) t #[.int .i64 kind, .int .i64 code, .bool neg, .slice A3 n3' c3, .int .i64 lo, .int .i64 hi', .slice A2 n2' c2'] := by
      refine hT.kept (fun g hg hp => ⟨?_, ?_⟩)
      · have hp : (psW W s b).heap.size ≤ g := hp
        show W.heap.size ≤ g
        omega
      · have hp : (psW W s b).heap.size ≤ g := hp
        have q1 := o7.block g hg (by omega) (by omega)
        have q2 := o1.block g (Nat.lt_of_lt_of_le hg o7.size) (by omega) (by omega)
        have q3 := o2.block g (Nat.lt_of_lt_of_le (Nat.lt_of_lt_of_le hg o7.size) o1.size) (by omega) (by omega)
        exact q3.trans (q2.trans q1)
    have hb3 : Below W.heap.size W (((put7 w2 W.heap.size (.int .i64 kind) (.int .i64 code) (.bool neg) (.slice A3 n3' c3) (.int .i64 lo) (.int .i64 hi') (.slice A2 n2' c2')).setCell ⟨W.heap.size + 1, 0, none⟩ (.int .i64 0)).setCell ⟨W.heap.size + 2, 0, none⟩ (.int .i64 0)) :=
      ((hb2.trans (o7.below (Nat.le_refl _) (Nat.le_refl _) hb2.size)).trans (o1.below (by omega) (by omega) (Nat.le_trans hb2.size o7.size))).trans (o2.below (by omega) (by omega) (Nat.le_trans (Nat.le_trans hb2.size o7.size) o1.size))
    obtain ⟨⟨y0, y1, y2, y3, y4, y5, y6⟩, _⟩ := d0.seven
    have y7 := d1.cell 0
    have y8 := d2.cell 0
    simp at y7 y8
    have HFIN := Lib.hid (And.intro FIN hb3)
    have HY := Lib.hid (And.intro (And.intro y0 (And.intro y1 (And.intro y2 (And.intro y3 (And.intro y4 (And.intro y5 y6)))))) (And.intro y7 y8))
    clear z7 o7 k1 k2 c1 c0 c2 d2 d0 d1 o1 o2 FIN hb3 ht ha he hb2 hO hS hT HBT HBA HBE HB y0 y1 y2 y3 y4 y5 y6 y7 y8 CWh
    go_wp2_with fail
    refine leaves_cons (f := 12) (args := #[.pointer (some ⟨W.heap.size, 0, none⟩), .pointer (some ⟨W.heap.size + 1, 0, none⟩), .pointer (some ⟨W.heap.size + 2, 0, none⟩)]) (by simp) (by simp [go_sem]) ?_
    refine (rx_idle ⟨W.heap.size, 0, none⟩ ⟨W.heap.size + 1, 0, none⟩ ⟨W.heap.size + 2, 0, none⟩ _).mono ?_
    rintro e u' w3 ⟨rfl, rfl, hw3⟩
    have hw4 : w3 = ((put7 w2 W.heap.size (.int .i64 kind) (.int .i64 code) (.bool neg) (.slice A3 n3' c3) (.int .i64 lo) (.int .i64 hi') (.slice A2 n2' c2')).setCell ⟨W.heap.size + 1, 0, none⟩ (.int .i64 0)).setCell ⟨W.heap.size + 2, 0, none⟩ (.int .i64 0) := hw3
    clear hw3
    obtain ⟨⟨y0, y1, y2, y3, y4, y5, y6⟩, y7, y8⟩ := HY.out
    rw [← hw4] at y0 y1 y2 y3 y4 y5 y6 y7 y8
    show Leaves _ _ _ _ [] .returning w3
    exact ⟨.tuple #[.agg #[.int .i64 kind, .int .i64 code, .bool neg, .slice A3 n3' c3, .int .i64 lo, .int .i64 hi', .slice A2 n2' c2'], .int .i64 0, .int .i64 0], by simp [results, Tryd.results8, go_sem, y0, y1, y2, y3, y4, y5, y6, y7, y8], _, rfl, hw4 ▸ HFIN.out.1, hw4 ▸ HFIN.out.2⟩
end Go.Proofs.YtmfcofiihopbfaaDoor
