/- Several texts in one (Contracts of layer 9: a row of nodes (printed by tools/gen_row.py); Contracts of layer 9: weights, and when two trees are the same; Contracts of layer 10: what a tree asks for, in memory of its own; Contracts of layer 10: a node that leads on: what it asks, what it leaves; Contracts of layer 10: a node that repeats; Contracts of layer 10: 'repeat'). -/
import Derived.Deep.RegionHeldLaw
import Derived.Deep.AppendLies
import Derived.Deep.RegionHeld3
import Derived.Test.YtdfacbcenogplaaDoorPk1
import Derived.Test.YtdfacbcenogplaaDoorPk2
import Derived.Test.YtdfacbcenogplaaDoorPk3
import Derived.Test.YtdfacbcenogplaaDoorPk5
import Derived.Test.YtdfacbcenogplaaDoorPk7
namespace Go.Proofs.YtdfacbcenogplaaDoor
open Go.RowKit Go.Lib

theorem info_rx : (Tryd.prog.info? 58).map (fun i => (i.zero, i.size, i.bytes)) = some (some (.agg zero7), 7, 88) := by kernel_rfl
set_option maxRecDepth 100000 in
set_option maxHeartbeats 4000000 in
theorem rx_row {W : World} {pb d : Nat} {s : ByteArray} {b : Bool} {i n : Nat} (hg : GrpOk s b d) (hn : n + d = 40) (h : Prs W pb s b i n) (hi : i ≤ s.size) (hs : s.size ≤ 1024) (hE : Env W pb) :
    Calls Tryd.prog 102 #[pbP pb] W (RxOut (gTr W.heap.size) pb s b n W (rowF (grpF s b d) s b (s.size + 1) i [])) := by
  have hlt := Blk.lt h
  have F0 := Blk.new W zero7 58
  have S0 := (Stp.refl h).alloc (.cells zero7 58)
  have hE0 := hE.step S0 hlt
  have hsz0 : (W.alloc (.cells zero7 58)).heap.size = W.heap.size + 1 := by simp
  obtain ⟨i0, hi0, hz0, hz1, hz2⟩ := info_parts info_rx
  have HI := Lib.hid (And.intro hi0 (And.intro hz0 (And.intro hz1 hz2)))
  obtain ⟨W0, hW0⟩ : ∃ W0, W.alloc (.cells zero7 58) = W0 := ⟨_, rfl⟩
  rw [hW0] at F0 S0 hE0 hsz0
  have hlt0 : pb < W0.heap.size := by omega
  have hsA : W.heap.size < W0.heap.size := by omega
  have hneB : pb ≠ W.heap.size := by omega
  clear hsz0
  have HS0 := Lib.hid S0
  have HKF := Lib.hid (fun (w : World) (j : Nat) (hS : Stp pb s b j n W0 w) => show Blk w W.heap.size zero7 58 from ⟨(hS.off.block _ F0.lt (Ne.symm hneB) (Ne.symm hneB)).trans F0.row⟩)
  have HE := Lib.hid (fun (w : World) (j : Nat) (hS : Stp pb s b j n W0 w) => hE0.step hS hlt0)
  have HG := Lib.hid hg
  have GI := Lib.hid (grp_in s b d)
  obtain ⟨R, hR⟩ : ∃ R, rowF (grpF s b d) s b (s.size + 1) i [] = R := ⟨_, rfl⟩
  have HR := Lib.hid hR
  rw [hR]
  clear h hE hE0 S0 F0 hi0 hz0 hz1 hz2 hR hg
  go_enter Tryd.func102, Tryd.ntmps102
  go_wp2_with fail
  clear hW0
  go_loopw [3] (fun sv wr => ∃ (v : Value) (j f : Nat) (kids : List Tr), v = sv ∧ Stp pb s b j n W0 wr ∧ j ≤ s.size ∧ Kds wr W0.heap.size v kids ∧ kids.length ≤ j ∧ rowF (grpF s b d) s b f j kids = R ∧ s.size - j < f) (fun _ wr => s.size - (match wr.cell? ⟨pb, 2, none⟩ with | some v => (RowKit.intOf v).toNat | none => 0))
  case atStart => exact ⟨_, i, s.size + 1, [], rfl, Stp.refl HS0.out.prs, hi, Kds.nil _ _, by simp, HR.out, by omega⟩
  case round =>
    obtain ⟨v, j, f, kids, rfl, hS, hj, hK, hkl, hR2, hf⟩ := hrel
    have HSr := Lib.hid hS
    obtain ⟨f1, rfl⟩ : ∃ g, f = g + 1 := ⟨f - 1, by omega⟩
    have q2r := hS.prs.four.2.2.1
    obtain ⟨p1, e1⟩ : ∃ p, st1 s j 124 = p := ⟨_, rfl⟩
    obtain ⟨p2, e2⟩ : ∃ p, st1 s j 41 = p := ⟨_, rfl⟩
    have CT1 := Lib.hid (fun w (hS : Stp pb s b j n W0 w) => rx_stands1 hS.prs hj 124 p1 e1)
    have CT2 := Lib.hid (fun w (hS : Stp pb s b j n W0 w) => rx_stands1 hS.prs hj 41 p2 e2)
    have CTo := Lib.hid (fun (w : World) (hS : Stp pb s b j n W0 w) (A : Option Addr) (cp : Nat) (hI : Tr.Ins w (fun g => W0.heap.size ≤ g) kids A 0) => rx_together hI (by omega) 5 cp)
    obtain ⟨A, cp, hv⟩ := hK.slice
    obtain ⟨xs, ho, hx⟩ := hK
    have KI : Kds wr W0.heap.size v kids := ⟨xs, ho, hx⟩
    have CE := fun (p : Bool) (hp : ((j : Int) == (s.size : Int)) = p) => rx_ended hS.prs p hp
    have HKW := Lib.hid (fun (w : World) (o : Off2 pb pb wr w) => KI.kept (w' := w) (fun g hg hp => o.block g hg (by omega) (by omega)))
    have HOW := Lib.hid (fun (w : World) (o : Off2 pb pb wr w) => own_off ho o hlt0)
    have HXW := Lib.hid (fun (w : World) (o : Off2 pb pb wr w) (jj : Nat) (t : Tr) (ht : kids[jj]? = some t) => (hx jj t ht).kept (w' := w) (P' := fun g => W0.heap.size ≤ g ∧ some g ≠ v.ownBlock) (fun g hg hp => ⟨hp, o.block g hg (by omega) (by omega)⟩))
    by_cases hje : j = s.size
    · have hend : rowE s j := .inl hje
      have CE := Lib.hid (CE true (by rw [size_beq, decide_eq_true_eq]; exact hje))
      clear CT1 CT2
      have HRE := Lib.hid (show R = .ok (togF 5 kids) j from hR2.symm.trans (row_end hend))
      subst hv
      clear ho hx KI hR2 hS q2r hend HOW HXW
      go_wp2_with fail
      refine CE.out.mono ?_
      rintro e wa ⟨rfl, hSa⟩
      have Ha := Lib.hid (HSr.out.trans hSa)
      have Oa := Lib.hid hSa.off
      clear hSa CE
      go_wp2_with fail
      refine (CTo.out _ Ha.out A cp ((HKW.out _ Oa.out).ins)).mono ?_
      rintro e w4 ⟨vs, rfl, ht, hb⟩
      obtain ⟨kind, code, neg, A3, n3, c3, lo, hi', A2, n2, c2, rfl⟩ := ht.form
      have S4 := Ha.out.below hb
      have F2 := HKF.out _ _ S4
      have FIN := Lib.hid (node_put (HS0.out.trans S4) F2 ht hsA)
      clear ht hb S4 CTo HKW
      obtain ⟨z7, _⟩ := rx_end7 (.int .i64 kind) (.int .i64 code) (.bool neg) (.slice A3 n3 c3) (.int .i64 lo) (.int .i64 hi') (.slice A2 n2 c2) F2
      obtain ⟨⟨y0, y1, y2, y3, y4, y5, y6⟩, _⟩ := z7.seven
      obtain ⟨⟨k0, k1, k2, k3, k4, k5, k6⟩, f0, f1', f2, f3, f4, f5, f6⟩ := F2.seven
      unfold put7 at y0 y1 y2 y3 y4 y5 y6
      clear F2 z7
      go_wp2_with fail
      rw [HRE.out]
      exact bodyPost_ret (v := .agg #[.int .i64 kind, .int .i64 code, .bool neg, .slice A3 n3 c3, .int .i64 lo, .int .i64 hi', .slice A2 n2 c2]) (by simp [results, Tryd.results102, go_sem, y0, y1, y2, y3, y4, y5, y6]) rfl FIN.out
    have CE := Lib.hid (CE false (by rw [size_beq, decide_eq_false_iff_not]; exact hje))
    cases p1 with
    | true =>
      have hend : rowE s j := .inr (.inl e1)
      clear CT2
      have HRE := Lib.hid (show R = .ok (togF 5 kids) j from hR2.symm.trans (row_end hend))
      subst hv
      clear ho hx KI hR2 hS q2r hend HOW HXW
      go_wp2_with fail
      refine CE.out.mono ?_
      rintro e wa ⟨rfl, hSa⟩
      have Ha := Lib.hid (HSr.out.trans hSa)
      have Oa := Lib.hid hSa.off
      clear hSa CE
      go_wp2_with fail
      refine (CT1.out _ Ha.out).mono ?_
      rintro e wb ⟨rfl, hSb⟩
      have Hb := Lib.hid (Ha.out.trans hSb)
      have Ob := Lib.hid (Oa.out.trans hSb.off)
      clear hSb CT1
      go_wp2_with fail
      refine (CTo.out _ Hb.out A cp ((HKW.out _ Ob.out).ins)).mono ?_
      rintro e w4 ⟨vs, rfl, ht, hb⟩
      obtain ⟨kind, code, neg, A3, n3, c3, lo, hi', A2, n2, c2, rfl⟩ := ht.form
      have S4 := Hb.out.below hb
      have F2 := HKF.out _ _ S4
      have FIN := Lib.hid (node_put (HS0.out.trans S4) F2 ht hsA)
      clear ht hb S4 CTo HKW
      obtain ⟨z7, _⟩ := rx_end7 (.int .i64 kind) (.int .i64 code) (.bool neg) (.slice A3 n3 c3) (.int .i64 lo) (.int .i64 hi') (.slice A2 n2 c2) F2
      obtain ⟨⟨y0, y1, y2, y3, y4, y5, y6⟩, _⟩ := z7.seven
      obtain ⟨⟨k0, k1, k2, k3, k4, k5, k6⟩, f0, f1', f2, f3, f4, f5, f6⟩ := F2.seven
      unfold put7 at y0 y1 y2 y3 y4 y5 y6
      clear F2 z7
      go_wp2_with fail
      rw [HRE.out]
      exact bodyPost_ret (v := .agg #[.int .i64 kind, .int .i64 code, .bool neg, .slice A3 n3 c3, .int .i64 lo, .int .i64 hi', .slice A2 n2 c2]) (by simp [results, Tryd.results102, go_sem, y0, y1, y2, y3, y4, y5, y6]) rfl FIN.out
    | false =>
      cases p2 with
      | true =>
        have hend : rowE s j := .inr (.inr e2)
        have HRE := Lib.hid (show R = .ok (togF 5 kids) j from hR2.symm.trans (row_end hend))
        subst hv
        clear ho hx KI hR2 hS q2r hend HOW HXW
        go_wp2_with fail
        refine CE.out.mono ?_
        rintro e wa ⟨rfl, hSa⟩
        have Ha := Lib.hid (HSr.out.trans hSa)
        have Oa := Lib.hid hSa.off
        clear hSa CE
        go_wp2_with fail
        refine (CT1.out _ Ha.out).mono ?_
        rintro e wb ⟨rfl, hSb⟩
        have Hb := Lib.hid (Ha.out.trans hSb)
        have Ob := Lib.hid (Oa.out.trans hSb.off)
        clear hSb CT1
        go_wp2_with fail
        refine (CT2.out _ Hb.out).mono ?_
        rintro e wc ⟨rfl, hSc⟩
        have Hc := Lib.hid (Hb.out.trans hSc)
        have Oc := Lib.hid (Ob.out.trans hSc.off)
        clear hSc CT2
        go_wp2_with fail
        refine (CTo.out _ Hc.out A cp ((HKW.out _ Oc.out).ins)).mono ?_
        rintro e w4 ⟨vs, rfl, ht, hb⟩
        obtain ⟨kind, code, neg, A3, n3, c3, lo, hi', A2, n2, c2, rfl⟩ := ht.form
        have S4 := Hc.out.below hb
        have F2 := HKF.out _ _ S4
        have FIN := Lib.hid (node_put (HS0.out.trans S4) F2 ht hsA)
        clear ht hb S4 CTo HKW
        obtain ⟨z7, _⟩ := rx_end7 (.int .i64 kind) (.int .i64 code) (.bool neg) (.slice A3 n3 c3) (.int .i64 lo) (.int .i64 hi') (.slice A2 n2 c2) F2
        obtain ⟨⟨y0, y1, y2, y3, y4, y5, y6⟩, _⟩ := z7.seven
        obtain ⟨⟨k0, k1, k2, k3, k4, k5, k6⟩, f0, f1', f2, f3, f4, f5, f6⟩ := F2.seven
        unfold put7 at y0 y1 y2 y3 y4 y5 y6
        clear F2 z7
        go_wp2_with fail
        rw [HRE.out]
        exact bodyPost_ret (v := .agg #[.int .i64 kind, .int .i64 code, .bool neg, .slice A3 n3 c3, .int .i64 lo, .int .i64 hi', .slice A2 n2 c2]) (by simp [results, Tryd.results102, go_sem, y0, y1, y2, y3, y4, y5, y6]) rfl FIN.out
      | false =>
        have hne : ¬ rowE s j := by
          rintro (e | e | e)
          · exact hje e
          · rw [e1] at e; cases e
          · rw [e2] at e; cases e
        have hjl : j < s.size := by omega
        have CN := fun w (hS : Stp pb s b j n W0 w) => rx_node HG.out hn hS.prs hjl hs (HE.out _ _ hS)
        clear CTo
        rcases List.eq_nil_or_concat kids with hnil | ⟨ks, t0, hcat⟩
        · subst hnil
          have hv0 : v = .slice A 0 cp := hv
          subst hv0
          clear hv
          obtain ⟨Q, hQ⟩ : ∃ Q, nodeF (grpF s b d) s b j = Q := ⟨_, rfl⟩
          rw [hQ] at CN
          have CN := Lib.hid CN
          cases Q with
          | bad ka er =>
            have HR2 := Lib.hid (show R = .bad ka er from hR2.symm.trans (row_nodebad hne (.inl rfl) hQ))
            clear hQ hR2 ho hx KI hS q2r hne HOW HXW HKW
            go_wp2_with fail
            refine CE.out.mono ?_
            rintro e wa ⟨rfl, hSa⟩
            have Ha := Lib.hid (HSr.out.trans hSa)
            have Oa := Lib.hid hSa.off
            clear hSa CE
            go_wp2_with fail
            refine (CT1.out _ Ha.out).mono ?_
            rintro e wb ⟨rfl, hSb⟩
            have Hb := Lib.hid (Ha.out.trans hSb)
            have Ob := Lib.hid (Oa.out.trans hSb.off)
            clear hSb CT1
            go_wp2_with fail
            refine (CT2.out _ Hb.out).mono ?_
            rintro e wc ⟨rfl, hSc⟩
            have Hc := Lib.hid (Hb.out.trans hSc)
            have Oc := Lib.hid (Ob.out.trans hSc.off)
            clear hSc CT2
            go_wp2_with fail
            refine (CN.out _ Hc.out).mono ?_
            rintro e w3 ⟨rfl, hO⟩
            have HO := Lib.hid hO
            clear hO CN
            go_wp2_with fail
            rw [HR2.out]
            exact ⟨rfl, rfl, HS0.out.off.trans (Hc.out.off.trans HO.out)⟩
          | ok t ka =>
            have hjk := node_in GI.out hjl hQ
            have HR2 := Lib.hid (show rowF (grpF s b d) s b f1 ka (([] : List Tr) ++ [t]) = R from (row_node hne (.inl rfl) hQ).symm.trans hR2)
            have hvb := fun q hq => (ho.lt q hq)
            have HVB := Lib.hid hvb
            clear hQ hR2 ho hx KI hS hne HKW hvb
            go_wp2_with fail
            refine CE.out.mono ?_
            rintro e wa ⟨rfl, hSa⟩
            have Ha := Lib.hid (HSr.out.trans hSa)
            have Oa := Lib.hid hSa.off
            clear hSa CE
            go_wp2_with fail
            refine (CT1.out _ Ha.out).mono ?_
            rintro e wb ⟨rfl, hSb⟩
            have Hb := Lib.hid (Ha.out.trans hSb)
            have Ob := Lib.hid (Oa.out.trans hSb.off)
            clear hSb CT1
            go_wp2_with fail
            refine (CT2.out _ Hb.out).mono ?_
            rintro e wc ⟨rfl, hSc⟩
            have Hc := Lib.hid (Hb.out.trans hSc)
            have Oc := Lib.hid (Ob.out.trans hSc.off)
            clear hSc CT2
            go_wp2_with fail
            refine (CN.out _ Hc.out).mono ?_
            rintro e w3 ⟨vv, rfl, ⟨vs, rfl, ht⟩, hS3⟩
            obtain ⟨kind, code, neg, A3, n3, c3, lo, hi', A2, n2, c2, rfl⟩ := ht.form
            have S3 := Lib.hid (Hc.out.trans hS3)
            have O3 := Lib.hid (Oc.out.trans hS3.off)
            have hz3 := O3.out.size
            have hz4 := (Oc.out).size
            have HT3 := Lib.hid ht
            have OW3 := Lib.hid (HOW.out _ O3.out)
            have OWm := Lib.hid (show w3.ownsRow W0.heap.size 58 7 (Value.slice A 0 cp) (0) xs from by have h9 := OW3.out; rwa [show (([] : List Tr)).length = 0 from rfl] at h9)
            have RN := Lib.hid (show ∀ jj u, [.int .i64 kind, .int .i64 code, .bool neg, .slice A3 n3 c3, .int .i64 lo, .int .i64 hi', .slice A2 n2 c2][jj]? = some u → (w3.alloc (.cells #[.int .i64 kind, .int .i64 code, .bool neg, .slice A3 n3 c3, .int .i64 lo, .int .i64 hi', .slice A2 n2 c2] 58)).cell? ((⟨w3.heap.size, 0, none⟩ : Addr).add jj) = some u from rx_row_new w3 #[.int .i64 kind, .int .i64 code, .bool neg, .slice A3 n3 c3, .int .i64 lo, .int .i64 hi', .slice A2 n2 c2] 58)
            have hz5 := S3.out.off.size
            clear hS3 ht CN
            go_wp2_with (at_builtin; refine wpList_append_own_at _ rfl _ _ 56 rfl W0.heap.size 58 i0 _ 7 88 Tryd.underlying56 HI.out.1 HI.out.2.1 HI.out.2.2.1 HI.out.2.2.2 rfl (by decide) _ (0) xs rfl (OWm.out.alloc _) ⟨w3.heap.size, 0, none⟩ 1 1 [.int .i64 kind, .int .i64 code, .bool neg, .slice A3 n3 c3, .int .i64 lo, .int .i64 hi', .slice A2 n2 c2] rfl rfl RN.out (by simp [Value.oneCell']) (by unfold maxLen; omega) (by omega) (by simp; omega) ?_)
            rintro v' w4 ho2 hgr _ hvv
            have hX3 := (Below.refl w3.heap.size w3).alloc (Nat.le_refl _) (.cells #[.int .i64 kind, .int .i64 code, .bool neg, .slice A3 n3 c3, .int .i64 lo, .int .i64 hi', .slice A2 n2 c2] 58)
            have ho3 : w4.ownsRow W0.heap.size 58 7 v' ((([] : List Tr)).length + 1) (xs ++ (#[.int .i64 kind, .int .i64 code, .bool neg, .slice A3 n3 c3, .int .i64 lo, .int .i64 hi', .slice A2 n2 c2] : Array Value).toList) := by rw [show (([] : List Tr)).length = 0 from rfl]; exact ho2
            have K4 := Lib.hid (Kds.snoc (m := wc.heap.size) OW3.out (HXW.out _ O3.out) HT3.out (fun q hq => Nat.lt_of_lt_of_le (HVB.out q hq).2 hz4) (Nat.le_trans Hc.out.off.size (Nat.le_refl _)) hX3 ho3 hgr (by rw [World.size_alloc]; exact hvv))
            have hvb2 : ∀ q, (Value.slice A 0 cp).ownBlock = some q → W0.heap.size ≤ q := fun q hq => (HVB.out q hq).1
            have P4 : Prs w4 pb s b ka n := Blk.grown (Blk.alloc S3.out.prs _) hgr (fun e => by have := hvb2 pb e.symm; omega)
            have S4 := Lib.hid (show Stp pb s b ka n W0 w4 from ⟨P4, off_grown (S3.out.off.trans (Off2.of_below hX3)) hgr hvb2⟩)
            have q4 := P4.four.2.2.1
            clear ho2 ho3 OWm hgr hvv hX3 hvb2 P4 RN OW3 HXW HOW HVB HT3 S3 O3
            go_wp2_with fail
            refine ⟨⟨v', ka, f1, ([] : List Tr) ++ [t], rfl, S4.out, hjk.2, K4.out, by have h8 := hkl; simp only [List.length_append, List.length_cons, List.length_nil] at h8 ⊢; omega, HR2.out, by omega⟩, ?_⟩
            rw [q4, q2r]
            simp [RowKit.intOf]
            omega
        · rw [List.concat_eq_append] at hcat
          subst hcat
          obtain ⟨K, kcap, cur, kind0, code0, neg0, A30, n30, c30, lo0, hi0', A20, n20, c20, hvK, hKn, hrow, ⟨u0, u1, u2, u3, u4, u5, u6⟩, hTK⟩ := KI.last
          have hlk : (ks ++ [t0]).length = ks.length + 1 := by simp
          obtain ⟨m, hm⟩ : ∃ m, ks.length = m := ⟨_, rfl⟩
          have hwm : IntKind.i64.wrap (((m + 1 : Nat) : Int) - 1) = (m : Int) := by simp [IntKind.wrap, IntKind.bits, IntKind.signed]; omega
          obtain ⟨m1, hm1⟩ : ∃ m1, m + 1 = m1 := ⟨_, rfl⟩
          rw [hm1] at hwm
          rw [hm, hm1] at hvK hlk
          have hlm : (ks ++ [t0]).length = m1 := hlk
          subst hvK
          have hm0 : (0 : Int) ≤ (m : Int) := by omega
          have hmm : (m : Int) < (m1 : Int) := by omega
          have CR := fun w (hS : Stp pb s b j n W0 w) (o : Off2 pb pb wr w) => rx_repeat (o := m * 7) (K := K) hS.prs hj hs ((o.block K (Array.getElem?_eq_some_iff.1 hrow).1 (by omega) (by omega)).trans hrow) (by omega) (hm ▸ u0) (hm ▸ u1) (hm ▸ u2) (hm ▸ u3) (hm ▸ u4) (hm ▸ u5) (hm ▸ u6)
          obtain ⟨Q2, hQ2⟩ : ∃ Q, repF s j = Q := ⟨_, rfl⟩
          rw [hQ2] at CR
          unfold RepM at CR
          have CR := Lib.hid CR
          have HTK := Lib.hid hTK
          have hKs := (Array.getElem?_eq_some_iff.1 hrow).1
          have HM := Lib.hid hm
          clear hv hrow u0 u1 u2 u3 u4 u5 u6 hTK hlk hm hm1
          match Q2, CR, hQ2 with
          | none, CR, hQ2 =>
            have HQ2 := Lib.hid hQ2
            clear hQ2 HTK
            obtain ⟨Q, hQ⟩ : ∃ Q, nodeF (grpF s b d) s b j = Q := ⟨_, rfl⟩
            rw [hQ] at CN
            have CN := Lib.hid CN
            cases Q with
            | bad ka er =>
              have HR2 := Lib.hid (show R = .bad ka er from hR2.symm.trans (row_nodebad hne (.inr HQ2.out) hQ))
              clear hQ hR2 ho hx KI hS q2r hne HOW HXW HKW
              go_wp2_with fail
              refine CE.out.mono ?_
              rintro e wa ⟨rfl, hSa⟩
              have Ha := Lib.hid (HSr.out.trans hSa)
              have Oa := Lib.hid hSa.off
              clear hSa CE
              go_wp2_with fail
              refine (CT1.out _ Ha.out).mono ?_
              rintro e wb ⟨rfl, hSb⟩
              have Hb := Lib.hid (Ha.out.trans hSb)
              have Ob := Lib.hid (Oa.out.trans hSb.off)
              clear hSb CT1
              go_wp2_with fail
              refine (CT2.out _ Hb.out).mono ?_
              rintro e wc ⟨rfl, hSc⟩
              have Hc := Lib.hid (Hb.out.trans hSc)
              have Oc := Lib.hid (Ob.out.trans hSc.off)
              clear hSc CT2
              go_wp2_with fail
              refine (show Calls _ _ _ _ _ from CR.out _ Hc.out Oc.out).mono ?_
              rintro e wd ⟨rfl, hSd⟩
              have Hd := Lib.hid (Hc.out.trans hSd)
              have Od := Lib.hid (Oc.out.trans hSd.off)
              clear hSd CR
              go_wp2_with fail
              refine (CN.out _ Hd.out).mono ?_
              rintro e w3 ⟨rfl, hO⟩
              have HO := Lib.hid hO
              clear hO CN
              go_wp2_with fail
              rw [HR2.out]
              exact ⟨rfl, rfl, HS0.out.off.trans (Hd.out.off.trans HO.out)⟩
            | ok t ka =>
              have hjk := node_in GI.out hjl hQ
              have HR2 := Lib.hid (show rowF (grpF s b d) s b f1 ka (ks ++ [t0] ++ [t]) = R from (row_node hne (.inr HQ2.out) hQ).symm.trans hR2)
              have hvb := fun q hq => (ho.lt q hq)
              have HVB := Lib.hid hvb
              clear hQ hR2 ho hx KI hS hne HKW hvb
              go_wp2_with fail
              refine CE.out.mono ?_
              rintro e wa ⟨rfl, hSa⟩
              have Ha := Lib.hid (HSr.out.trans hSa)
              have Oa := Lib.hid hSa.off
              clear hSa CE
              go_wp2_with fail
              refine (CT1.out _ Ha.out).mono ?_
              rintro e wb ⟨rfl, hSb⟩
              have Hb := Lib.hid (Ha.out.trans hSb)
              have Ob := Lib.hid (Oa.out.trans hSb.off)
              clear hSb CT1
              go_wp2_with fail
              refine (CT2.out _ Hb.out).mono ?_
              rintro e wc ⟨rfl, hSc⟩
              have Hc := Lib.hid (Hb.out.trans hSc)
              have Oc := Lib.hid (Ob.out.trans hSc.off)
              clear hSc CT2
              go_wp2_with fail
              refine (show Calls _ _ _ _ _ from CR.out _ Hc.out Oc.out).mono ?_
              rintro e wd ⟨rfl, hSd⟩
              have Hd := Lib.hid (Hc.out.trans hSd)
              have Od := Lib.hid (Oc.out.trans hSd.off)
              clear hSd CR
              go_wp2_with fail
              refine (CN.out _ Hd.out).mono ?_
              rintro e w3 ⟨vv, rfl, ⟨vs, rfl, ht⟩, hS3⟩
              obtain ⟨kind, code, neg, A3, n3, c3, lo, hi', A2, n2, c2, rfl⟩ := ht.form
              have S3 := Lib.hid (Hd.out.trans hS3)
              have O3 := Lib.hid (Od.out.trans hS3.off)
              have hz3 := O3.out.size
              have hz4 := (Od.out).size
              have HT3 := Lib.hid ht
              have OW3 := Lib.hid (HOW.out _ O3.out)
              have OWm := Lib.hid (show w3.ownsRow W0.heap.size 58 7 (Value.slice (some ⟨K, 0, none⟩) m1 kcap) (m1) xs from by have h9 := OW3.out; rwa [show (ks ++ [t0]).length = m1 from hlm] at h9)
              have RN := Lib.hid (show ∀ jj u, [.int .i64 kind, .int .i64 code, .bool neg, .slice A3 n3 c3, .int .i64 lo, .int .i64 hi', .slice A2 n2 c2][jj]? = some u → (w3.alloc (.cells #[.int .i64 kind, .int .i64 code, .bool neg, .slice A3 n3 c3, .int .i64 lo, .int .i64 hi', .slice A2 n2 c2] 58)).cell? ((⟨w3.heap.size, 0, none⟩ : Addr).add jj) = some u from rx_row_new w3 #[.int .i64 kind, .int .i64 code, .bool neg, .slice A3 n3 c3, .int .i64 lo, .int .i64 hi', .slice A2 n2 c2] 58)
              have hz5 := S3.out.off.size
              clear hS3 ht CN
              go_wp2_with (at_builtin; refine wpList_append_own_at _ rfl _ _ 56 rfl W0.heap.size 58 i0 _ 7 88 Tryd.underlying56 HI.out.1 HI.out.2.1 HI.out.2.2.1 HI.out.2.2.2 rfl (by decide) _ (m1) xs rfl (OWm.out.alloc _) ⟨w3.heap.size, 0, none⟩ 1 1 [.int .i64 kind, .int .i64 code, .bool neg, .slice A3 n3 c3, .int .i64 lo, .int .i64 hi', .slice A2 n2 c2] rfl rfl RN.out (by simp [Value.oneCell']) (by unfold maxLen; omega) (by omega) (by simp; omega) ?_)
              rintro v' w4 ho2 hgr _ hvv
              have hX3 := (Below.refl w3.heap.size w3).alloc (Nat.le_refl _) (.cells #[.int .i64 kind, .int .i64 code, .bool neg, .slice A3 n3 c3, .int .i64 lo, .int .i64 hi', .slice A2 n2 c2] 58)
              have ho3 : w4.ownsRow W0.heap.size 58 7 v' ((ks ++ [t0]).length + 1) (xs ++ (#[.int .i64 kind, .int .i64 code, .bool neg, .slice A3 n3 c3, .int .i64 lo, .int .i64 hi', .slice A2 n2 c2] : Array Value).toList) := by rw [show (ks ++ [t0]).length = m1 from hlm]; exact ho2
              have K4 := Lib.hid (Kds.snoc (m := wd.heap.size) OW3.out (HXW.out _ O3.out) HT3.out (fun q hq => Nat.lt_of_lt_of_le (HVB.out q hq).2 hz4) (Nat.le_trans Hd.out.off.size (Nat.le_refl _)) hX3 ho3 hgr (by rw [World.size_alloc]; exact hvv))
              have hvb2 : ∀ q, (Value.slice (some ⟨K, 0, none⟩) m1 kcap).ownBlock = some q → W0.heap.size ≤ q := fun q hq => (HVB.out q hq).1
              have P4 : Prs w4 pb s b ka n := Blk.grown (Blk.alloc S3.out.prs _) hgr (fun e => by have := hvb2 pb e.symm; omega)
              have S4 := Lib.hid (show Stp pb s b ka n W0 w4 from ⟨P4, off_grown (S3.out.off.trans (Off2.of_below hX3)) hgr hvb2⟩)
              have q4 := P4.four.2.2.1
              clear ho2 ho3 OWm hgr hvv hX3 hvb2 P4 RN OW3 HXW HOW HVB HT3 S3 O3
              go_wp2_with fail
              refine ⟨⟨v', ka, f1, ks ++ [t0] ++ [t], rfl, S4.out, hjk.2, K4.out, by have h8 := hkl; simp only [List.length_append, List.length_cons, List.length_nil] at h8 ⊢; omega, HR2.out, by omega⟩, ?_⟩
              rw [q4, q2r]
              simp [RowKit.intOf]
              omega
          | some (.bad ka er), CR, hQ2 =>
            have HR2 := Lib.hid (show R = .bad ka er from hR2.symm.trans (row_repbad hne hQ2))
            clear hQ2 HTK hR2 ho hx KI hS q2r hne HOW HXW HKW CN
            go_wp2_with fail
            refine CE.out.mono ?_
            rintro e wa ⟨rfl, hSa⟩
            have Ha := Lib.hid (HSr.out.trans hSa)
            have Oa := Lib.hid hSa.off
            clear hSa CE
            go_wp2_with fail
            refine (CT1.out _ Ha.out).mono ?_
            rintro e wb ⟨rfl, hSb⟩
            have Hb := Lib.hid (Ha.out.trans hSb)
            have Ob := Lib.hid (Oa.out.trans hSb.off)
            clear hSb CT1
            go_wp2_with fail
            refine (CT2.out _ Hb.out).mono ?_
            rintro e wc ⟨rfl, hSc⟩
            have Hc := Lib.hid (Hb.out.trans hSc)
            have Oc := Lib.hid (Ob.out.trans hSc.off)
            clear hSc CT2
            go_wp2_with fail
            refine (show Calls _ _ _ _ _ from CR.out _ Hc.out Oc.out).mono ?_
            rintro e wd ⟨rfl, hO⟩
            have HO := Lib.hid hO
            clear hO CR
            go_wp2_with fail
            rw [HR2.out]
            exact ⟨rfl, rfl, HS0.out.off.trans (Hc.out.off.trans HO.out)⟩
          | some (.ok rr ka), CR, hQ2 =>
            have hjk := rep_in hQ2
            have HR2 := Lib.hid (show rowF (grpF s b d) s b f1 ka (ks ++ [trR rr.1 rr.2 t0]) = R from (row_rep hne hQ2).symm.trans hR2)
            have hlm2 : (ks ++ [trR rr.1 rr.2 t0]).length = m1 := by rw [← hlm]; simp
            clear hQ2 hR2 ho hx KI hS hne HOW HXW CN
            go_wp2_with fail
            refine CE.out.mono ?_
            rintro e wa ⟨rfl, hSa⟩
            have Ha := Lib.hid (HSr.out.trans hSa)
            have Oa := Lib.hid hSa.off
            clear hSa CE
            go_wp2_with fail
            refine (CT1.out _ Ha.out).mono ?_
            rintro e wb ⟨rfl, hSb⟩
            have Hb := Lib.hid (Ha.out.trans hSb)
            have Ob := Lib.hid (Oa.out.trans hSb.off)
            clear hSb CT1
            go_wp2_with fail
            refine (CT2.out _ Hb.out).mono ?_
            rintro e wc ⟨rfl, hSc⟩
            have Hc := Lib.hid (Hb.out.trans hSc)
            have Oc := Lib.hid (Ob.out.trans hSc.off)
            clear hSc CT2
            go_wp2_with fail
            refine (show Calls _ _ _ _ _ from CR.out _ Hc.out Oc.out).mono ?_
            rintro e wd ⟨rfl, W1, hS1, hwd⟩
            have S1 := Hc.out.trans hS1
            have O1 := Oc.out.trans hS1.off
            have K1 := HKW.out _ O1
            have T1 := HTK.out.kept (w' := W1) (P' := fun g => W0.heap.size ≤ g ∧ g ≠ K) (fun g hg hp => ⟨hp, O1.block g hg (by omega) (by omega)⟩)
            have hz1 := S1.off.size
            have hz2 := O1.size
            have K4 := Lib.hid (show Kds wd W0.heap.size (.slice (some ⟨K, 0, none⟩) m1 kcap) (ks ++ [trR rr.1 rr.2 t0]) from by
              rw [hwd]
              have h9 : Kds W1 W0.heap.size (.slice (some ⟨K, 0, none⟩) (ks.length + 1) kcap) (ks ++ [t0]) := by
                rw [show ks.length + 1 = m1 by rw [← hlm]; simp]
                exact K1
              have h8 := Kds.rep (lo := rr.1) (hi := rr.2) h9 hKn T1 hz1 (by omega)
              rw [show ks.length + 1 = m1 by rw [← hlm]; simp, HM.out] at h8
              exact h8)
            have S4 := Lib.hid (show Stp pb s b ka n W0 wd from by
              rw [hwd]
              exact (S1.aside (off_put7o _ _ _ _ _ _ _ _ _ _) hKn (by omega)).alloc _)
            have q4 := S4.out.prs.four.2.2.1
            clear hS1 hwd S1 O1 K1 T1 CR HTK HKW
            go_wp2_with fail
            refine ⟨⟨_, ka, f1, ks ++ [trR rr.1 rr.2 t0], rfl, S4.out, hjk.2, K4.out, by rw [hlm2]; rw [hlm] at hkl; omega, HR2.out, by omega⟩, ?_⟩
            rw [q4, q2r]
            simp [RowKit.intOf]
            omega
end Go.Proofs.YtdfacbcenogplaaDoor

namespace Go.Proofs.YtdfacbcenogplaaDoor
open Go.RowKit Go.Lib

theorem TrV.at {w : World} {P : Nat → Prop} {l : List Tr} {A : Option Addr} (h : Tr.Ins w P l A 0) (j : Nat) (t : Tr) (hj : l[j]? = some t) : ∃ (g : Nat) (kind code : Int) (neg : Bool) (A3 : Option Addr) (n3 c3 : Nat) (lo hi : Int) (A2 : Option Addr) (n2 c2 : Nat), A = some ⟨g, 0, none⟩ ∧
    (w.cell? ⟨g, j * 7, none⟩ = some (.int .i64 kind) ∧ w.cell? ⟨g, j * 7 + 1, none⟩ = some (.int .i64 code) ∧ w.cell? ⟨g, j * 7 + 2, none⟩ = some (.bool neg) ∧ w.cell? ⟨g, j * 7 + 3, none⟩ = some (.slice A3 n3 c3) ∧ w.cell? ⟨g, j * 7 + 4, none⟩ = some (.int .i64 lo) ∧ w.cell? ⟨g, j * 7 + 5, none⟩ = some (.int .i64 hi) ∧ w.cell? ⟨g, j * 7 + 6, none⟩ = some (.slice A2 n2 c2)) ∧
    TrV w P t #[.int .i64 kind, .int .i64 code, .bool neg, .slice A3 n3 c3, .int .i64 lo, .int .i64 hi, .slice A2 n2 c2] := by
  obtain ⟨g, rfl, hp, ht⟩ := h.at j t hj
  simp only [Nat.zero_add] at ht
  obtain ⟨kind, code, neg, set, lo, hi, kids⟩ := t
  rw [Tr.In] at ht
  obtain ⟨sv, A2, c2, t0, t1, t2, t3, t4, t5, t6, hn, hR, hJ⟩ := ht
  obtain ⟨A3, c3, rfl⟩ := rx_store_set hR
  exact ⟨g, kind, code, neg, A3, _, c3, lo, hi, A2, _, c2, rfl, ⟨t0, t1, t2, t3, t4, t5, t6⟩, TrV.mk hn hR hJ⟩
set_option maxRecDepth 100000 in
set_option maxHeartbeats 4000000 in
/-- Weight, of trees no greater than so. -/
theorem rx_weight_n : ∀ (N : Nat) (t : Tr) (P : Nat → Prop) (vs : Array Value) (W : World), SizeOf.sizeOf t ≤ N → TrV W P t vs → Calls Tryd.prog 79 #[.agg vs] W fun e w' => e = .returned (.int .i64 t.wt) ∧ Below W.heap.size W w'
  | 0, t, _, _, _, h, _ => by cases t; simp at h
  | N + 1, .mk kind code neg set lo hi kids, P, vs, W, hN, h => by
    obtain ⟨sv, A, cap, rfl, hkl, hR, hI⟩ := h.open
    obtain ⟨A3, c3, rfl⟩ := rx_store_set hR
    have hb0 := (Below.refl W.heap.size W).alloc (Nat.le_refl _) (.cells #[.int .i64 kind, .int .i64 code, .bool neg, .slice A3 set.length c3, .int .i64 lo, .int .i64 hi, .slice A kids.length cap] 58)
    have F0 := Blk.new W #[.int .i64 kind, .int .i64 code, .bool neg, .slice A3 set.length c3, .int .i64 lo, .int .i64 hi, .slice A kids.length cap] 58
    have IH := Lib.hid (fun (t : Tr) (ht : t ∈ kids) (vs : Array Value) (w : World) (hv : TrV w (fun g => g < W.heap.size ∧ P g) t vs) => rx_weight_n N t _ vs w (by have := size_kid (kind := kind) (code := code) (neg := neg) (set := set) (lo := lo) (hi := hi) ht; omega) hv)
    have HKI := Lib.hid (fun (w : World) (hb : Below W.heap.size W w) => Tr.Ins.keep (w' := w) (P' := fun g => g < W.heap.size ∧ P g) (fun g hg hp => ⟨⟨hg, hp⟩, hb.block g hg⟩) kids A 0 hI)
    obtain ⟨W0, hW0⟩ : ∃ W0, W.alloc (.cells #[.int .i64 kind, .int .i64 code, .bool neg, .slice A3 set.length c3, .int .i64 lo, .int .i64 hi, .slice A kids.length cap] 58) = W0 := ⟨_, rfl⟩
    rw [hW0] at hb0 F0
    have HF := Lib.hid F0
    have HB0 := Lib.hid hb0
    have hs0 := hb0.size
    obtain ⟨⟨c0, c1, c2, c3', c4, c5, c6⟩, _⟩ := F0.seven
    rw [Tr.wt]
    have hwb := wts_in kids 0 (Int.le_refl _) (by omega)
    obtain ⟨S, hS⟩ : ∃ S, Tr.wts 0 kids = S := ⟨_, rfl⟩
    rw [hS] at hwb ⊢
    have HS := Lib.hid hS
    obtain ⟨V, hV⟩ : ∃ V, (if kind = 5 then S else if kind = 7 then min (S * min (if hi < 0 then min (max 0 lo) 1048576 + 1 else hi) 1048576 + 1) 1048576 else min (S + 1) 1048576) = V := ⟨_, rfl⟩
    rw [hV]
    have HV := Lib.hid hV
    obtain ⟨ml, hml⟩ : ∃ ml, kids.length = ml := ⟨_, rfl⟩
    rw [hml] at c6 hkl
    have HML := Lib.hid hml
    clear h hR hI hb0 F0 hS hN hml hV
    go_enter Tryd.func79, Tryd.ntmps79
    go_wp2_with fail
    clear hW0
    go_loopw [3, 10] (fun sv kv wr => ∃ k : Nat, sv = .int .i64 (Tr.wts 0 (kids.take k)) ∧ kv = .int .i64 (k : Int) ∧ k ≤ ml ∧ Below W0.heap.size W0 wr) (fun _ kv _ => ml - (RowKit.intOf kv).toNat)
    case atStart => exact ⟨0, by simp [Tr.wts], rfl, Nat.zero_le _, Below.refl _ _⟩
    case round =>
      obtain ⟨k, rfl, rfl, hk, hB⟩ := hrel
      have HB := Lib.hid hB
      have hwk := wts_in (kids.take k) 0 (Int.le_refl _) (by omega)
      by_cases hlt : k < ml
      · have hkl2 : k < kids.length := by rw [HML.out]; exact hlt
        obtain ⟨t, ht⟩ : ∃ t, kids[k] = t := ⟨_, rfl⟩
        have hmem : t ∈ kids := by rw [← ht]; exact List.getElem_mem hkl2
        have hn : Tr.wts 0 (kids.take (k + 1)) = min (Tr.wts 0 (kids.take k) + t.wt) 1048576 := by
          rw [List.take_succ_eq_append_getElem hkl2, wts_snoc, ht]
        have HN := Lib.hid hn
        have hwt := wt_in t
        obtain ⟨g, kind1, code1, neg1, A31, n31, c31, lo1, hi1, A21, n21, c21, hA, ⟨u0, u1, u2, u3, u4, u5, u6⟩, hT⟩ := TrV.at (HKI.out wr (HB0.out.trans (hB.mono hs0))) k t (by rw [List.getElem?_eq_getElem hkl2, ht])
        subst hA
        have CW := Lib.hid (fun (w : World) (hb : Below wr.heap.size wr w) => IH.out t hmem _ w (hT.kept (fun g hg hp => ⟨hp, hb.block g hg⟩)))
        obtain ⟨a, ha⟩ : ∃ a, Tr.wts 0 (kids.take k) = a := ⟨_, rfl⟩
        obtain ⟨b, hb⟩ : ∃ b, t.wt = b := ⟨_, rfl⟩
        have CW := Lib.hid (fun (w : World) (hb2 : Below wr.heap.size wr w) => hb ▸ CW.out w hb2)
        rw [ha] at hwk
        rw [ha, hb] at HN
        rw [hb] at hwt
        have hw1 : IntKind.i64.wrap (a + b) = a + b := by simp [IntKind.wrap, IntKind.bits, IntKind.signed]; omega
        obtain ⟨k1, hk1⟩ : ∃ k1, k + 1 = k1 := ⟨_, rfl⟩
        have hw2 : IntKind.i64.wrap ((k : Int) + 1) = (k1 : Int) := by simp [IntKind.wrap, IntKind.bits, IntKind.signed]; omega
        rw [hk1] at HN
        rw [ha]
        clear hn ht hmem hT ha hb hkl2 hB
        go_wp2_with fail
        refine (CW.out _ ((Below.refl _ _).alloc (Nat.le_refl _) _)).mono ?_
        rintro e w2 ⟨rfl, hb2⟩
        have HB2 := Lib.hid (HB.out.trans ((((Below.refl wr.heap.size wr).alloc (Nat.le_refl _) (.cells #[.int .i64 kind1, .int .i64 code1, .bool neg1, .slice A31 n31 c31, .int .i64 lo1, .int .i64 hi1, .slice A21 n21 c21] 58)).trans (hb2.mono (by simp))).mono HB.out.size))
        clear hb2 CW
        go_wp2_with fail
        refine ⟨⟨k1, by rw [HN.out], rfl, by omega, HB2.out⟩, ?_⟩
        simp [RowKit.intOf]
        omega
      · have hkn : kids.take k = kids := List.take_of_length_le (by rw [HML.out]; omega)
        rw [hkn, HS.out] at hwk ⊢
        have FIN := Lib.hid (HB0.out.trans (hB.mono hs0))
        obtain ⟨⟨d0, d1, d2, d3, d4, d5, d6⟩, _⟩ := (HF.out.below hB HF.out.lt).seven
        clear hkn hB IH HKI
        by_cases k5 : kind = 5
        · have hv := Lib.hid (show V = S by rw [← HV.out, if_pos k5])
          subst k5
          go_wp2_with fail
          go_ret
          exact ⟨by rw [hv.out]; rfl, FIN.out⟩
        have b5 : (kind == 5) = false := by rw [beq_eq_false_iff_ne]; exact k5
        by_cases k7 : kind = 7
        · have hv1 := HV.out
          rw [if_neg k5, if_pos k7] at hv1
          subst k7
          obtain ⟨m, hm⟩ : ∃ m, min (if hi < 0 then min (max 0 lo) 1048576 + 1 else hi) 1048576 = m := ⟨_, rfl⟩
          have m0 : 0 ≤ m ∧ m ≤ 1048576 := by
            rw [← hm]
            split <;> omega
          have hp0 : 0 ≤ S * m := Int.mul_nonneg hwk.1 m0.1
          have hp1 : S * m ≤ 1048576 * 1048576 := Int.mul_le_mul hwk.2 m0.2 m0.1 (by omega)
          obtain ⟨pr, hpr⟩ : ∃ pr, S * m = pr := ⟨_, rfl⟩
          rw [hm, hpr] at hv1
          have hv := Lib.hid hv1.symm
          rw [hpr] at hp0 hp1
          clear hv1
          have hw1 : IntKind.i64.wrap pr = pr := by simp [IntKind.wrap, IntKind.bits, IntKind.signed]; omega
          have hw2 : IntKind.i64.wrap (pr + 1) = pr + 1 := by simp [IntKind.wrap, IntKind.bits, IntKind.signed]; omega
          by_cases hh : hi < 0
          · rw [if_pos hh] at hm
            have hw0 : IntKind.i64.wrap (min (max 0 lo) 1048576 + 1) = min (max 0 lo) 1048576 + 1 := by simp [IntKind.wrap, IntKind.bits, IntKind.signed]; omega
            clear k5
            go_wp2_with fail
            go_ret
            exact ⟨by rw [hv.out]; rfl, FIN.out⟩
          · rw [if_neg hh] at hm
            clear k5
            go_wp2_with fail
            go_ret
            exact ⟨by rw [hv.out]; rfl, FIN.out⟩
        · have hv := Lib.hid (show V = min (S + 1) 1048576 by rw [← HV.out, if_neg k5, if_neg k7])
          have b7 : (kind == 7) = false := by rw [beq_eq_false_iff_ne]; exact k7
          have hw2 : IntKind.i64.wrap (S + 1) = S + 1 := by simp [IntKind.wrap, IntKind.bits, IntKind.signed]; omega
          clear k5 k7
          go_wp2_with fail
          go_ret
          exact ⟨by rw [hv.out]; rfl, FIN.out⟩
theorem rx_weight {W : World} {P : Nat → Prop} {t : Tr} {vs : Array Value} (h : TrV W P t vs) : Calls Tryd.prog 79 #[.agg vs] W fun e w' => e = .returned (.int .i64 t.wt) ∧ Below W.heap.size W w' := rx_weight_n _ t P vs W (Nat.le_refl _) h
end Go.Proofs.YtdfacbcenogplaaDoor

namespace Go.Proofs.YtdfacbcenogplaaDoor
open Go.RowKit Go.Lib Go.Maps

theorem SetB.kept {w w' : World} {g : Nat} (h : SetB w g) (e : w'.heap[g]? = w.heap[g]?) : SetB w' g := by
  obtain ⟨cs, t, hb, ht⟩ := h
  exact ⟨cs, t, ⟨e.trans hb.row⟩, ht⟩
theorem SetB.lt {w : World} {g : Nat} (h : SetB w g) : g < w.heap.size := by
  obtain ⟨cs, t, hb, _⟩ := h
  exact hb.lt
/-- A block of ranges. -/
def RgB (w : World) (g : Nat) : Prop := ∃ cs, Blk w g cs 143
theorem RgB.kept {w w' : World} {g : Nat} (h : RgB w g) (e : w'.heap[g]? = w.heap[g]?) : RgB w' g := by
  obtain ⟨cs, hb⟩ := h
  exact ⟨cs, ⟨e.trans hb.row⟩⟩
theorem RgB.set {w : World} {g : Nat} (h : RgB w g) : SetB w g := by
  obtain ⟨cs, hb⟩ := h
  exact ⟨cs, _, hb, .inl rfl⟩
def rgCells (l : List (Int × Int)) : List Value := l.flatMap fun r => [.int .i64 r.1, .int .i64 r.2]
theorem rgCells_len : ∀ l, (rgCells l).length = l.length * 2
  | [] => rfl
  | r :: l => by
    have := rgCells_len l
    unfold rgCells at this ⊢
    rw [List.flatMap_cons, List.length_append, this]
    simp
    omega
theorem rgCells_at : ∀ (l : List (Int × Int)) (j : Nat) (r : Int × Int), l[j]? = some r → (rgCells l)[j * 2]? = some (.int .i64 r.1) ∧ (rgCells l)[j * 2 + 1]? = some (.int .i64 r.2)
  | [], j, r, h => by simp at h
  | x :: l, 0, r, h => by
    obtain rfl : x = r := by simpa using h
    exact ⟨rfl, rfl⟩
  | x :: l, j + 1, r, h => by
    have := rgCells_at l j r (by simpa using h)
    rw [show (j + 1) * 2 = (j * 2) + 1 + 1 by omega]
    exact this
theorem rgCells_of {p : Nat → Value → Prop} : ∀ (l : List (Int × Int)), (∀ (j : Nat) (r : Int × Int), l[j]? = some r → p (j * 2) (.int .i64 r.1) ∧ p (j * 2 + 1) (.int .i64 r.2)) → ∀ i u, (rgCells l)[i]? = some u → p i u := fun l h i u hu => by
  have hl := (List.getElem?_eq_some_iff.1 hu).1
  rw [rgCells_len] at hl
  obtain ⟨r, hr⟩ : ∃ r, l[i / 2]? = some r := ⟨_, List.getElem?_eq_getElem (by omega)⟩
  obtain ⟨a, b⟩ := rgCells_at l _ r hr
  obtain ⟨c, d⟩ := h _ r hr
  rcases Nat.mod_two_eq_zero_or_one i with q | q
  · have e : i / 2 * 2 = i := by omega
    rw [e] at a c
    rw [a] at hu
    cases hu
    exact c
  · have e : i / 2 * 2 + 1 = i := by omega
    rw [e] at b d
    rw [b] at hu
    cases hu
    exact d
theorem rgCells_one (l : List (Int × Int)) : ∀ u ∈ rgCells l, u.oneCell' = true := fun u hu => by
  unfold rgCells at hu
  obtain ⟨x, _, hx⟩ := List.mem_flatMap.1 hu
  simp at hx
  rcases hx with rfl | rfl <;> rfl
theorem info_range : (Tryd.prog.info? 143).map (fun i => (i.zero, i.size, i.bytes)) = some (some (.agg #[.int .i64 0, .int .i64 0]), 2, 16) := by kernel_rfl
/-- Ranges of one's own. -/
theorem rg_own {w : World} {n : Nat} {v : Value} {set : List (Int × Int)} (h : w.ownsRow n 143 2 v set.length (rgCells set)) (hl : set.length ≤ 100000) : RgIn w (fun g => n ≤ g ∧ RgB w g) set v := by
  rcases h.2 with ⟨rfl, h0⟩ | ⟨g, cap, cur, rfl, hg, hr, _⟩
  · have : set = [] := List.eq_nil_of_length_eq_zero h0
    subst this
    exact RgIn.nil w _ none 0
  · refine ⟨_, cap, rfl, hl, fun j r hj => ⟨g, rfl, ⟨hg, cur, ⟨hr⟩⟩, ?_⟩⟩
    obtain ⟨a, b⟩ := rgCells_at set j r hj
    have c := h.cells rfl
    have c1 := c _ _ a
    have c2 := c _ _ b
    rw [Addr.add_lit, Nat.zero_add] at c1 c2
    exact ⟨c1, c2⟩
set_option maxRecDepth 100000 in
set_option maxHeartbeats 2000000 in
theorem rg_clone {W : World} {P : Nat → Prop} {set : List (Int × Int)} {A : Option Addr} {n c : Nat} (hn : set.length = n) (h : RgIn W P set (.slice A n c)) :
    Calls Tryd.prog 85 #[.slice A n c] W fun e w' => ∃ (B : Option Addr) (d : Nat), e = .returned (.slice B n d) ∧ RgIn w' (fun g => W.heap.size ≤ g ∧ RgB w' g) set (.slice B n d) ∧ Below W.heap.size W w' := by
  have hl : set.length ≤ 100000 := by obtain ⟨_, _, _, q, _⟩ := h; exact q
  have hln : n ≤ 100000 := by omega
  obtain ⟨i0, hi, hz0, hz1, hz2⟩ := info_parts info_range
  have HI := Lib.hid (And.intro hi (And.intro hz0 (And.intro hz1 hz2)))
  have HL := Lib.hid (And.intro hl hn)
  have q22 : ∀ (w : World) (a : Option Addr) (n c n' c' : Nat), (binOp .eql 55 (.slice a n c) (.slice none n' c')).run Tryd.prog w = .ok (.bool a.isNone) w := fun w a n c n' c' => Lib.run_eql_slice_nil w _ _ a n c n' c' Tryd.underlying55
  cases A with
  | none =>
    have hs : set = [] := by
      cases set with
      | nil => rfl
      | cons r l =>
        obtain ⟨A', c', e, _, h⟩ := h
        injection e with e1
        obtain ⟨g, hg, _⟩ := h 0 r rfl
        rw [hg] at e1
        cases e1
    subst hs
    obtain rfl : n = 0 := by simpa using hn.symm
    clear h hi hz0 hz1 hz2
    go_enter Tryd.func85, Tryd.ntmps85
    go_wp2_with fail
    go_ret
    exact ⟨none, 0, rfl, RgIn.nil _ _ _ _, Below.refl _ _⟩
  | some ad =>
    have HC := Lib.hid (show ∀ j u, (rgCells set)[j]? = some u → W.cell? (ad.add j) = some u from rgCells_of set fun j r hj => by
      obtain ⟨A', c', e, _, h⟩ := h
      injection e with e1
      obtain ⟨g, hg, _, h0, h1⟩ := h j r hj
      rw [hg] at e1
      cases e1
      rw [Addr.add_lit, Addr.add_lit, Nat.zero_add, Nat.zero_add]
      exact ⟨h0, h1⟩)
    clear h hi hz0 hz1 hz2
    go_enter Tryd.func85, Tryd.ntmps85
    go_wp2_with (at_builtin; refine wpList_append_own_at _ rfl _ _ 55 rfl W.heap.size 143 i0 _ 2 16 Tryd.underlying55 HI.out.1 HI.out.2.1 HI.out.2.2.1 HI.out.2.2.2 rfl (by decide) _ _ _ rfl (World.ownsRow_made W #[] 0 (Nat.le_refl _) (Nat.zero_le _) (by simp)) ad n c (rgCells set) rfl ?qc1 ?qc2 (rgCells_one set) ?qc4 ?qc5 ?qc6 ?_)
    case qc1 => rw [rgCells_len, HL.out.2]
    case qc2 => exact fun j u hj => Lib.cell?_alloc_some _ (HC.out j u hj)
    case qc4 => unfold maxLen; omega
    case qc5 => omega
    case qc6 => simp
    rintro v' w1 hown hgrow _ _
    have hR := rg_own (show w1.ownsRow W.heap.size 143 2 v' set.length (rgCells set) by rw [HL.out.2]; exact hown) HL.out.1
    obtain ⟨B, d, rfl⟩ := own_slice hown
    have hb : Below W.heap.size W w1 := ((Below.refl _ W).alloc (Nat.le_refl _) _).grown hgrow (by simp) (by intro k hk; simp [Value.ownBlock] at hk; omega)
    have HR := Lib.hid (And.intro hR hb)
    clear hR hb hown hgrow
    go_wp2
    go_ret
    exact ⟨B, d, rfl, HR.out.1, HR.out.2⟩
/-- Trees of one's own, in a row of its own. -/
def KdsT (w : World) (n : Nat) (v : Value) (ts : List Tr) : Prop :=
  ∃ xs, w.ownsRow n 58 7 v ts.length xs ∧ ∀ (j : Nat) (t : Tr), ts[j]? = some t → t.In w (fun g => (n ≤ g ∧ SetB w g) ∧ some g ≠ v.ownBlock) (rdL xs (j * 7))
theorem KdsT.nil (w : World) (n : Nat) : KdsT w n (.slice none 0 0) [] := ⟨[], World.ownsRow_nil _ _ _ _, fun j t h => by simp at h⟩
theorem KdsT.kept {w w' : World} {n : Nat} {v : Value} {ts : List Tr} (h : KdsT w n v ts) (hk : ∀ g, g < w.heap.size → n ≤ g → w'.heap[g]? = w.heap[g]?) : KdsT w' n v ts := by
  obtain ⟨xs, ho, hx⟩ := h
  refine ⟨xs, ⟨ho.1, ?_⟩, fun j t hj => (hx j t hj).kept (fun g hg hp => ⟨⟨⟨hp.1.1, hp.1.2.kept (hk g hg hp.1.1)⟩, hp.2⟩, hk g hg hp.1.1⟩)⟩
  rcases ho.2 with h0 | ⟨g, cap, cur, e, hg, hr, hz⟩
  · exact .inl h0
  · exact .inr ⟨g, cap, cur, e, hg, (hk g (Array.getElem?_eq_some_iff.1 hr).1 hg).trans hr, hz⟩
theorem KdsT.ins {w : World} {n : Nat} {A : Option Addr} {cap m : Nat} {ts : List Tr} (h : KdsT w n (.slice A m cap) ts) : Tr.Ins w (fun g => n ≤ g ∧ SetB w g) ts A 0 := by
  obtain ⟨xs, ho, hx⟩ := h
  refine Tr.Ins.of fun j t hj => ?_
  have hjl : j < ts.length := (List.getElem?_eq_some_iff.1 hj).1
  have hlen := ho.1
  rcases ho.2 with ⟨e, h0⟩ | ⟨g, cap', cur, e, hg, hr, _⟩
  · omega
  · injection e with e1 e2 e3
    subst e1
    refine ⟨g, rfl, ⟨hg, cur, _, ⟨hr⟩, .inr rfl⟩, ?_⟩
    refine ((hx j t hj).kept (fun g _ hp => ⟨hp.1, rfl⟩)).congr fun i hi => ?_
    have hb : j * 7 + i < xs.length := by omega
    rw [rdL, List.getElem?_eq_getElem hb]
    have := ho.cells rfl (j * 7 + i) _ (List.getElem?_eq_getElem hb)
    rw [Addr.add_lit] at this
    simpa using this
theorem KdsT.slice {w : World} {n : Nat} {v : Value} {ts : List Tr} (h : KdsT w n v ts) : ∃ A cap, v = .slice A ts.length cap := by
  obtain ⟨xs, ⟨_, h⟩, _⟩ := h
  rcases h with ⟨rfl, h0⟩ | ⟨g, cap, cur, rfl, _⟩
  · exact ⟨none, 0, by rw [h0]⟩
  · exact ⟨_, _, rfl⟩
/-- One more tree. -/
theorem KdsT.snoc {w X w2 : World} {n m : Nat} {v v' : Value} {ts : List Tr} {t : Tr} {xs : List Value} {vs : Array Value} (ho : w.ownsRow n 58 7 v ts.length xs) (hx : ∀ (j : Nat) (t : Tr), ts[j]? = some t → t.In w (fun g => (n ≤ g ∧ SetB w g) ∧ some g ≠ v.ownBlock) (rdL xs (j * 7)))
    (ht : TrV w (fun c => m ≤ c ∧ SetB w c) t vs) (hm : ∀ q, v.ownBlock = some q → q < m) (hnm : n ≤ m) (hX : Below w.heap.size w X)
    (ho2 : w2.ownsRow n 58 7 v' (ts.length + 1) (xs ++ vs.toList)) (hgr : X.grownBy w2 v.ownBlock) (hv : v'.ownBlock = v.ownBlock ∨ v'.ownBlock = some X.heap.size) : KdsT w2 n v' (ts ++ [t]) := by
  have hkeep : ∀ g, g < w.heap.size → some g ≠ v.ownBlock → some g ≠ v'.ownBlock ∧ w2.heap[g]? = w.heap[g]? := fun g hg hne => by
    have hs := hX.size
    refine ⟨?_, (hgr.block g (by omega) hne).trans (hX.block g hg)⟩
    rcases hv with e | e
    · rw [e]; exact hne
    · rw [e]
      intro e2
      have := Option.some.inj e2
      omega
  refine ⟨_, by rw [List.length_append, List.length_cons, List.length_nil, Nat.zero_add]; exact ho2, fun j u hj => ?_⟩
  have hl := ho.1
  rcases Nat.lt_or_ge j ts.length with hlt | hge
  · rw [List.getElem?_append_left hlt] at hj
    refine ((hx j u hj).kept (fun g hg hp => ⟨⟨⟨hp.1.1, hp.1.2.kept (hkeep g hg hp.2).2⟩, (hkeep g hg hp.2).1⟩, (hkeep g hg hp.2).2⟩)).congr fun i hi => ?_
    rw [rdL, rdL, List.getElem?_append_left (by omega)]
  · have hjl : j = ts.length := by
      have := (List.getElem?_eq_some_iff.1 hj).1
      simp at this
      omega
    subst hjl
    have hu : t = u := by simpa using hj
    subst hu
    refine (ht.2.kept (fun g hg hp => ?_)).congr fun i hi => ?_
    · have hp1 : m ≤ g := hp.1
      have hne : some g ≠ v.ownBlock := fun e => by have := hm g e.symm; omega
      exact ⟨⟨⟨by omega, hp.2.kept (hkeep g hg hne).2⟩, (hkeep g hg hne).1⟩, (hkeep g hg hne).2⟩
    · rw [rdL, List.getElem?_append_right (by omega), hl, show ts.length * 7 + i - ts.length * 7 = i by omega, Array.getElem?_toList]
theorem Tr.Ins.keep' {w : World} {P P' : Nat → Prop} {l : List Tr} {A : Option Addr} {o : Nat} (h : Tr.Ins w P l A o) (hk : ∀ g, P g → P' g) : Tr.Ins w P' l A o := Tr.Ins.keep (fun g _ hp => ⟨hk g hp, rfl⟩) l A o h
/-- A call of two arguments as a step of a region that draws. -/
theorem step_call_nfa {P : Program} {ops : Array Oper} {o : Oper} {a : Act} {w : World} {K : Act → World → Prop} {Q : Exit → Act → World → Prop} {E : Prop}
    (hg : o.guard = none) (f : FuncId) (he : ∀ args w, (callFunc f args).run P w = .ok (.enter f args) w) (x y : Operand) (xT yT : TypeId) (hop : o.op = Op.call { callee := Callee.value (Operand.func f), args := #[x, y], argTypes := #[xT, yT] })
    (vx : Value) (hx : a.eval x = vx) (vy : Value) (hy : a.eval y = vy) (hc : Calls P f #[vx, vy] w fun e w' => ∃ v, e = .returned v ∧ K (a.put o.dst v) w') : if Region.wanted o (yielded ops a.tmps) = true then Oper.wp P o a w K Q else E := by
  have hw : Region.wanted o (yielded ops a.tmps) = true := by simp [Region.wanted, hg]
  rw [if_pos hw]
  unfold Oper.wp
  have hrun : (execOp a.eval o).run P w = .ok (.enter f #[vx, vy]) w := by
    have hf : a.eval (Operand.func f) = .func (Fn.func f) #[] #[] := rfl
    simp [execOp, hop, resolve, invoke, hx, hy, hf, Deferred.ofValue, he]
  rw [hrun, Oper.upon_enter]
  refine hc.mono ?_
  rintro e w' ⟨v, rfl, h⟩
  exact h
/-- What 'own' answers. -/
def OwnOut (W : World) (t : Tr) (e : Ending) (w' : World) : Prop := ∃ us, e = .returned (.agg us) ∧ TrV w' (fun g => W.heap.size ≤ g ∧ SetB w' g) t us ∧ Below W.heap.size W w'
end Go.Proofs.YtdfacbcenogplaaDoor

namespace Go.Proofs.YtdfacbcenogplaaDoor
open Go.RowKit Go.Lib Go.Maps

/-- A tree of no more than so many levels, each small. -/
def Lim : Nat → Tr → Prop
  | 0, _ => False
  | d + 1, .mk kind code neg set lo hi kids => (kind = 7 → kids.length = 1 ∧ 0 ≤ lo ∧ lo ≤ 30 ∧ -1 ≤ hi ∧ hi ≤ 30) ∧ LenLe (fun u C => Tr.laid (.mk kind code neg set lo hi kids) u C) 400 ∧ kids.length ≤ 200 ∧ ∀ t ∈ kids, Lim d t
/-- All blocks but programs and instructions are as they were. -/
structure TK (w w' : World) : Prop where
  blk : ∀ (g : Nat) (cs : Array Value) (t : TypeId), Blk w g cs t → t ≠ 69 → t ≠ 91 → Blk w' g cs t
  obj : ∀ (g : Nat) (o : Obj), w.heap[g]? = some o → o.isCells = false → w'.heap[g]? = some o
theorem TK.refl (w : World) : TK w w := ⟨fun _ _ _ h _ _ => h, fun _ _ h _ => h⟩
theorem TK.trans {w w1 w2 : World} (h : TK w w1) (k : TK w1 w2) : TK w w2 := ⟨fun g cs t hb h1 h2 => k.blk g cs t (h.blk g cs t hb h1 h2) h1 h2, fun g o ho hc => k.obj g o (h.obj g o ho hc) hc⟩
theorem TK.below {w w' : World} (h : Below w.heap.size w w') : TK w w' := ⟨fun _ _ _ hb _ _ => hb.below h hb.lt, fun g _o ho _ => (h.block g (Array.getElem?_eq_some_iff.1 ho).1).trans ho⟩
theorem TK.alloc (w : World) (o : Obj) : TK w (w.alloc o) := TK.below ((Below.refl _ _).alloc (Nat.le_refl _) o)
theorem TK.set {w w' : World} (h : TK w w') {p : Addr} (hp : w.heap.size ≤ p.block) (v : Value) : TK w (w'.setCell p v) :=
  ⟨fun g cs t hb h1 h2 => ⟨(Below.heap_setCell w' p v g (by have := hb.lt; omega)).trans (h.blk g cs t hb h1 h2).row⟩, fun g o ho hc => (Below.heap_setCell w' p v g (by have := (Array.getElem?_eq_some_iff.1 ho).1; omega)).trans (h.obj g o ho hc)⟩
theorem SetB.tk {w w' : World} {g : Nat} (h : SetB w g) (k : TK w w') : SetB w' g ∧ w'.heap[g]? = w.heap[g]? := by
  obtain ⟨cs, t, hb, ht⟩ := h
  have := k.blk g cs t hb (by rcases ht with rfl | rfl <;> decide) (by rcases ht with rfl | rfl <;> decide)
  exact ⟨⟨cs, t, this, ht⟩, this.row.trans hb.row.symm⟩
theorem TrV.tk {w w' : World} {t : Tr} {vs : Array Value} (h : TrV w (SetB w) t vs) (k : TK w w') : TrV w' (SetB w') t vs := h.kept fun _ _ hp => hp.tk k
theorem Tr.Ins.tk {w w' : World} {l : List Tr} {A : Option Addr} {o : Nat} (h : Tr.Ins w (SetB w) l A o) (k : TK w w') : Tr.Ins w' (SetB w') l A o := Tr.Ins.keep (fun _ _ hp => hp.tk k) l A o h
theorem RgIn.tk {w w' : World} {l : List (Int × Int)} {v : Value} (h : RgIn w (SetB w) l v) (k : TK w w') : RgIn w' (SetB w') l v := h.kept fun _ _ hp => hp.tk k
/-- A program is there: what is kept of it while others grow. -/
theorem Grow.same {w w' : World} {D : Nat → Prop} {B P : Nat} {fold bytes : Bool} {fv : Int} {A : Option Addr} {n c : Nat} {C : List Ins} (h : Grow w D B P fold bytes fv A n c C) (hb : Below w.heap.size w w') : Grow w' D B P fold bytes fv A n c C := by
  obtain ⟨L, hL, hO, hI⟩ := h.row
  refine ⟨h.blk.below hb h.blk.lt, h.up, L, hL, own_bel hO hb, fun i x hx => ?_⟩
  obtain ⟨vs, h1, h2⟩ := hI i x hx
  exact ⟨vs, h1, h2.kept fun g cs t hg _ => hb.block g hg.lt⟩
theorem InsT.weak {w : World} {D D' : Nat → Prop} {x : Ins} {vs : List Value} (h : InsT w D x vs) (hd : ∀ g, D g → D' g) : InsT w D' x vs := by
  obtain ⟨sv, wa, wc, e, hs, hn, hw⟩ := h
  refine ⟨sv, wa, wc, e, hs, hn, fun j m hj => ?_⟩
  obtain ⟨g, cs, e, hg, hb⟩ := hw j m hj
  exact ⟨g, cs, e, hd g hg, hb⟩
theorem Grow.weak {w : World} {D D' : Nat → Prop} {B P : Nat} {fold bytes : Bool} {fv : Int} {A : Option Addr} {n c : Nat} {C : List Ins} (h : Grow w D B P fold bytes fv A n c C) (hd : ∀ g, D g → D' g) : Grow w D' B P fold bytes fv A n c C := by
  obtain ⟨L, hL, hO, hI⟩ := h.row
  refine ⟨h.blk, h.up, L, hL, hO, fun i x hx => ?_⟩
  obtain ⟨vs, h1, h2⟩ := hI i x hx
  exact ⟨vs, h1, h2.weak hd⟩
/-- A store aside of a program: into a block of whole numbers that is no instruction's. -/
theorem Grow.aside {w : World} {D : Nat → Prop} {B P : Nat} {fold bytes : Bool} {fv : Int} {A : Option Addr} {n c : Nat} {C : List Ins} (h : Grow w D B P fold bytes fv A n c C) {g j : Nat} {cs : Array Value} (hg : Blk w g cs 3) (hD : ¬ D g) (v : Value) : Grow (w.setCell ⟨g, j, none⟩ v) D B P fold bytes fv A n c C := by
  obtain ⟨L, hL, hO, hI⟩ := h.row
  refine ⟨h.blk.other (Blk.apart h.blk hg (by decide)), h.up, L, hL, own_set hO hg (by decide), fun i x hx => ?_⟩
  obtain ⟨vs, h5, sv, wa, wc, e, hs, hn, hw⟩ := hI i x hx
  refine ⟨vs, h5, sv, wa, wc, e, hs.kept (fun q _ hp => ?_), hn, fun k m hk => ?_⟩
  · obtain ⟨cs', t, hb, ht⟩ := hp
    have hne := Blk.apart hb hg (by rcases ht with rfl | rfl <;> decide)
    exact ⟨⟨cs', t, hb.other hne, ht⟩, Below.heap_setCell w ⟨g, j, none⟩ v q hne⟩
  · obtain ⟨q, cs', e, hq, hb, hc⟩ := hw k m hk
    exact ⟨q, cs', e, hq, hb.other (fun e => hD (e ▸ hq)), hc⟩
/-- What 'lead' leaves. -/
def LeadOut (w : World) (D : Nat → Prop) (B P : Nat) (fold bytes : Bool) (fv : Int) (r : Nat × List Ins) (e : Ending) (w' : World) : Prop :=
  e = .returned (.int .i64 (r.1 : Int)) ∧ ∃ A n c, Grow w' (fun g => D g ∨ w.heap.size ≤ g) B P fold bytes fv A n c r.2 ∧ Below B w w' ∧ TK w w'
/-- 'add', told so. -/
theorem add_out {w : World} {D : Nat → Prop} {B P n c : Nat} {fold bytes : Bool} {fv : Int} {A : Option Addr} {C : List Ins} (h : Grow w D B P fold bytes fv A n c C) (hC : C.length ≤ 1000000000) {x : Ins} {vs : List Value} (hx : InsT w D x vs) :
    Calls Tryd.prog 45 #[.pointer (some ⟨P, 0, none⟩), .agg vs.toArray] w (LeadOut w D B P fold bytes fv (C.length, C ++ [x])) := by
  have hne : ∀ (g : Nat) (cs : Array Value) (t : TypeId), Blk w g cs t → t ≠ 91 → (Value.slice A n c).ownBlock ≠ some g := fun g cs t hb ht q => by
    obtain ⟨L, hL, hO, hI⟩ := h.row
    rcases hO.2 with ⟨e, _⟩ | ⟨g', cap, cur, e, _, hr, _⟩
    · rw [e] at q; cases q
    · rw [e] at q
      injection q with q
      have hq := hb.row
      rw [show g = g' from q.symm, hr] at hq
      injection hq with hq
      injection hq with _ hq
      exact ht hq.symm
  have hP := h.blk
  refine (nadd_any h hC hx).mono ?_
  rintro e w' ⟨rfl, A', n', c', hG, hB, hF, _⟩
  have hne2 : ∀ (g : Nat) (o : Obj), w.heap[g]? = some o → o.isCells = false → g ≠ P ∧ (Value.slice A n c).ownBlock ≠ some g := fun g o ho hc => by
    constructor
    · intro q
      rw [q, hP.row] at ho
      cases ho
      cases hc
    · intro q
      obtain ⟨L, hL, hO, hI⟩ := h.row
      obtain ⟨_, c', hc'⟩ := own_at hO g q
      rw [hc'] at ho
      cases ho
      cases hc
  exact ⟨rfl, A', n', c', hG.weak fun _ h => .inl h, hB, fun g cs t hb h1 h2 => ⟨(hF g hb.lt (Blk.apart hb hP h1) (hne g cs t hb h2)).trans hb.row⟩, fun g o ho hc => (hF g (Array.getElem?_eq_some_iff.1 ho).1 (hne2 g o ho hc).1 (hne2 g o ho hc).2).trans ho⟩
/-- What is asked of 'lead' at the kids. -/
def LK (d : Nat) : Prop := ∀ (t : Tr) (vs : Array Value) (w : World) (D : Nat → Prop) (B P : Nat) (fold bytes : Bool) (fv : Int) (A : Option Addr) (n c : Nat) (C : List Ins) (u : Nat), Lim d t → TrV w (SetB w) t vs → Grow w D B P fold bytes fv A n c C → C.length + 90000 * d ≤ 1000000000 →
  Calls Tryd.prog 46 #[.pointer (some ⟨P, 0, none⟩), .agg vs, .int .i64 (u : Int)] w (LeadOut w D B P fold bytes fv (t.laid u C))
end Go.Proofs.YtdfacbcenogplaaDoor

namespace Go.Proofs.YtdfacbcenogplaaDoor
open Go.RowKit Go.Lib Go.Maps

theorem take_setIf {α : Type} (cur : Array α) (p k : Nat) (u : α) : (cur.setIfInBounds p u).toList.take k = (cur.toList.take k).set p u := by
  rw [Array.toList_setIfInBounds, List.take_set]
/-- A cell of a row of one's own is written. -/
theorem own_put {w : World} {n : Nat} {t : TypeId} {z k : Nat} {A : Option Addr} {c : Nat} {xs : List Value} {g : Nat} (h : w.ownsRow n t z (.slice A k c) k xs) (hA : A = some ⟨g, 0, none⟩) (p : Nat) (u : Value) : (w.setCell ⟨g, p, none⟩ u).ownsRow n t z (.slice A k c) k (xs.set p u) := by
  refine ⟨by rw [List.length_set]; exact h.1, ?_⟩
  rcases h.2 with ⟨e, h0⟩ | ⟨g', cap, cur, e, hn, hr, h1, h2, h3, h4⟩
  · injection e with e1
    rw [hA] at e1
    cases e1
  · injection e with e1 e2 e3
    rw [hA] at e1
    injection e1 with e1
    injection e1 with e1
    subst e1 e3
    refine .inr ⟨g, _, cur.setIfInBounds p u, by rw [hA], hn, heap_setCell_same w g p cur t u hr, h1, h2, by simpa using h3, ?_⟩
    rw [take_setIf, h4]
theorem flat_get : ∀ (L : List (List Value)) (i j : Nat) (vs : List Value), (∀ l ∈ L, l.length = 5) → L[i]? = some vs → j < 5 → L.flatten[i * 5 + j]? = vs[j]?
  | [], i, j, vs, _, h, _ => by simp at h
  | l :: L, 0, j, vs, hl, h, hj => by
    obtain rfl : l = vs := by simpa using h
    have := hl l List.mem_cons_self
    rw [List.flatten_cons, Nat.zero_mul, Nat.zero_add, List.getElem?_append_left (by omega)]
  | l :: L, i + 1, j, vs, hl, h, hj => by
    have h5 := hl l List.mem_cons_self
    rw [List.flatten_cons, List.getElem?_append_right (by omega), show (i + 1) * 5 + j - l.length = i * 5 + j by omega]
    exact flat_get L i j vs (fun x hx => hl x (List.mem_cons_of_mem _ hx)) (by simpa using h) hj
theorem flat_put : ∀ (L : List (List Value)) (i j : Nat) (vs : List Value) (u : Value), (∀ l ∈ L, l.length = 5) → L[i]? = some vs → j < 5 → L.flatten.set (i * 5 + j) u = (L.set i (vs.set j u)).flatten
  | [], i, j, vs, u, _, h, _ => by simp at h
  | l :: L, 0, j, vs, u, hl, h, hj => by
    obtain rfl : l = vs := by simpa using h
    have := hl l List.mem_cons_self
    rw [List.flatten_cons, Nat.zero_mul, Nat.zero_add, List.set_append_left _ _ (by omega), List.set_cons_zero, List.flatten_cons]
  | l :: L, i + 1, j, vs, u, hl, h, hj => by
    have h5 := hl l List.mem_cons_self
    rw [List.flatten_cons, List.set_append_right _ _ (by omega), show (i + 1) * 5 + j - l.length = i * 5 + j by omega, flat_put L i j vs u (fun x hx => hl x (List.mem_cons_of_mem _ hx)) (by simpa using h) hj, List.set_cons_succ, List.flatten_cons]
/-- Where an instruction lies. -/
theorem Grow.at {w : World} {D : Nat → Prop} {B P : Nat} {fold bytes : Bool} {fv : Int} {A : Option Addr} {n c : Nat} {C : List Ins} (h : Grow w D B P fold bytes fv A n c C) {i : Nat} {x : Ins} (hx : C[i]? = some x) :
    n = C.length ∧ ∃ g cs, A = some ⟨g, 0, none⟩ ∧ B ≤ g ∧ Blk w g cs 91 ∧ ∃ sv wa wc, w.cell? ⟨g, i * 5 + 4, none⟩ = some (.slice wa x.ways.length wc) ∧ w.cell? ⟨g, i * 5 + 3, none⟩ = some sv := by
  obtain ⟨L, hL, hO, hI⟩ := h.row
  obtain ⟨vs, h1, sv, wa, wc, e, _⟩ := hI i x hx
  have hi := (List.getElem?_eq_some_iff.1 hx).1
  have hl5 : ∀ l ∈ L, l.length = 5 := fun l hl => by
    obtain ⟨j, hj⟩ := List.mem_iff_getElem?.1 hl
    have hjl := (List.getElem?_eq_some_iff.1 hj).1
    obtain ⟨vs', h1', sv', wa', wc', e', _⟩ := hI j C[j] (List.getElem?_eq_getElem (by omega))
    rw [hj] at h1'
    cases h1'
    rw [e']
    rfl
  have hcell := fun j hj => flat_get L i j vs hl5 h1 hj
  rcases hO.2 with ⟨e2, h0⟩ | ⟨g, cap, cur, e2, hn, hr, h5, h6, h7, h8⟩
  · omega
  · injection e2 with e1 e2 e3
    refine ⟨e2, g, cur, e1, hn, ⟨hr⟩, sv, wa, wc, ?_, ?_⟩
    · have := hO.cells (by rw [e1]; rfl) (i * 5 + 4) (.slice wa x.ways.length wc) (by rw [hcell 4 (by omega), e]; rfl)
      rw [Addr.add_lit, Nat.zero_add] at this
      exact this
    · have := hO.cells (by rw [e1]; rfl) (i * 5 + 3) sv (by rw [hcell 3 (by omega), e]; rfl)
      rw [Addr.add_lit, Nat.zero_add] at this
      exact this
/-- An instruction gets its ways. -/
theorem Grow.put {w : World} {D : Nat → Prop} {B P : Nat} {fold bytes : Bool} {fv : Int} {A : Option Addr} {n c : Nat} {C : List Ins} (h : Grow w D B P fold bytes fv A n c C) {i g : Nat} (hx : C[i]? = some (insAlt [])) (hA : A = some ⟨g, 0, none⟩) {wv : Value} {ws : List Nat} {wa : Option Addr} {wc : Nat} (hv : wv = .slice wa ws.length wc) (hn : ws.length ≤ 100000)
    (hw : ∀ (j m : Nat), ws[j]? = some m → ∃ q cs, wa = some ⟨q, 0, none⟩ ∧ D q ∧ Blk w q cs 3 ∧ cs[j]? = some (.int .i64 (m : Int))) : Grow (w.setCell ⟨g, i * 5 + 4, none⟩ wv) D B P fold bytes fv A n c (C.set i (insAlt ws)) := by
  obtain ⟨hnC, g', cs, hA', _, hb, _⟩ := h.at hx
  subst hnC
  rw [hA] at hA'
  cases hA'
  obtain ⟨L, hL, hO, hI⟩ := h.row
  obtain ⟨vs, h1, sv, wa0, wc0, e, hs, _, _⟩ := hI i _ hx
  have hi := (List.getElem?_eq_some_iff.1 hx).1
  have hl5 : ∀ l ∈ L, l.length = 5 := fun l hl => by
    obtain ⟨j, hj⟩ := List.mem_iff_getElem?.1 hl
    have hjl := (List.getElem?_eq_some_iff.1 hj).1
    obtain ⟨vs', h1', sv', wa', wc', e', _⟩ := hI j C[j] (List.getElem?_eq_getElem (by omega))
    rw [hj] at h1'
    cases h1'
    rw [e']
    rfl
  have hkp : ∀ q cs' t, Blk w q cs' t → t = 143 ∨ t = 58 ∨ t = 3 → (w.setCell ⟨g, i * 5 + 4, none⟩ wv).heap[q]? = w.heap[q]? := fun q cs' t hq ht => Below.heap_setCell w ⟨g, i * 5 + 4, none⟩ wv q (Blk.apart hq hb (by rcases ht with rfl | rfl | rfl <;> decide))
  refine ⟨h.blk.other (Blk.apart h.blk hb (by decide)), h.up, L.set i (vs.set 4 wv), by rw [List.length_set, List.length_set]; exact hL, ?_, fun j y hy => ?_⟩
  · rw [← flat_put L i 4 vs wv hl5 h1 (by omega), List.length_set]
    exact own_put hO hA (i * 5 + 4) wv
  · rw [List.getElem?_set] at hy
    by_cases q : i = j
    · subst q
      rw [if_pos rfl, if_pos hi] at hy
      cases hy
      refine ⟨vs.set 4 wv, by rw [List.getElem?_set_self (by omega)], sv, wa, wc, ?_, ?_, hn, fun j m hj => ?_⟩
      · rw [e, hv]; rfl
      · exact hs.kept fun q _ hp => by
          obtain ⟨cs', t, hq, ht⟩ := hp
          have := hkp q cs' t hq (ht.elim .inl fun z => .inr (.inl z))
          exact ⟨⟨cs', t, ⟨this.trans hq.row⟩, ht⟩, this⟩
      · obtain ⟨q, cs', e', hD, hq, hc⟩ := hw j m hj
        exact ⟨q, cs', e', hD, ⟨(hkp q cs' _ hq (.inr (.inr rfl))).trans hq.row⟩, hc⟩
    · rw [if_neg q] at hy
      obtain ⟨vs', h1', h2'⟩ := hI j y hy
      exact ⟨vs', by rw [List.getElem?_set_ne q]; exact h1', h2'.kept hkp⟩
end Go.Proofs.YtdfacbcenogplaaDoor

namespace Go.Proofs.YtdfacbcenogplaaDoor
open Go.RowKit Go.Lib Go.Maps

/-- A fork as five values. -/
theorem insAlt_T {w : World} {D : Nat → Prop} {g cap : Nat} {ws : List Nat} {cs : Array Value} (hb : Blk w g cs 3) (hD : D g) (hn : ws.length ≤ 100000) (hc : ∀ (j m : Nat), ws[j]? = some m → cs[j]? = some (.int .i64 (m : Int))) :
    InsT w D (insAlt ws) [.int .i64 6, .int .i64 0, .bool false, .slice none 0 0, .slice (some ⟨g, 0, none⟩) ws.length cap] :=
  ⟨.slice none 0 0, _, cap, rfl, RgIn.nil _ _ _ _, hn, fun j m hj => ⟨g, cs, rfl, hD, hb, hc j m hj⟩⟩
theorem insAlt_nil (w : World) (D : Nat → Prop) : InsT w D (insAlt []) [.int .i64 6, .int .i64 0, .bool false, .slice none 0 0, .slice none 0 0] :=
  ⟨.slice none 0 0, none, 0, rfl, RgIn.nil _ _ _ _, by decide, fun j m hj => by cases hj⟩
/-- How a program stands between the calls. -/
def PMid (w2 : World) (D : Nat → Prop) (B P : Nat) (fold bytes : Bool) (fv : Int) (C : List Ins) (W : World) : Prop := ∃ A n c, Grow W D B P fold bytes fv A n c C ∧ Below B w2 W ∧ TK w2 W ∧ w2.heap.size ≤ W.heap.size
theorem PMid.lead {d : Nat} (IH : LK d) {w2 : World} {D : Nat → Prop} {B P : Nat} {fold bytes : Bool} {fv : Int} {C : List Ins} {t : Tr} (hl : Lim d t) {vs : Array Value} (hT : TrV w2 (SetB w2) t vs) (hD : ∀ g, w2.heap.size ≤ g → D g) {W : World} (h : PMid w2 D B P fold bytes fv C W) (u : Nat) (hC : C.length + 90000 * d ≤ 1000000000) :
    Calls Tryd.prog 46 #[.pointer (some ⟨P, 0, none⟩), .agg vs, .int .i64 (u : Int)] W fun e w' => e = .returned (.int .i64 (((t.laid u C).1 : Nat) : Int)) ∧ PMid w2 D B P fold bytes fv (t.laid u C).2 w' := by
  obtain ⟨A, n, c, hG, hb, hk, hz⟩ := h
  refine (IH t vs W D B P fold bytes fv A n c C u hl (hT.tk hk) hG hC).mono ?_
  rintro e w' ⟨rfl, A', n', c', hG', hb', hk'⟩
  refine ⟨rfl, A', n', c', hG'.weak (fun g hg => hg.elim id fun q => hD g (Nat.le_trans hz q)), hb.trans hb', hk.trans hk', Nat.le_trans hz hb'.size⟩
theorem PMid.add {w2 : World} {D : Nat → Prop} {B P : Nat} {fold bytes : Bool} {fv : Int} {C : List Ins} (hD : ∀ g, w2.heap.size ≤ g → D g) {W : World} (h : PMid w2 D B P fold bytes fv C W) (hC : C.length ≤ 1000000000) {x : Ins} {vs : List Value} (hx : InsT W D x vs) :
    Calls Tryd.prog 45 #[.pointer (some ⟨P, 0, none⟩), .agg vs.toArray] W fun e w' => e = .returned (.int .i64 (C.length : Int)) ∧ PMid w2 D B P fold bytes fv (C ++ [x]) w' := by
  obtain ⟨A, n, c, hG, hb, hk, hz⟩ := h
  refine (add_out hG hC hx).mono ?_
  rintro e w' ⟨rfl, A', n', c', hG', hb', hk'⟩
  exact ⟨rfl, A', n', c', hG'.weak (fun g hg => hg.elim id fun q => hD g (Nat.le_trans hz q)), hb.trans hb', hk.trans hk', Nat.le_trans hz hb'.size⟩
theorem PMid.alloc {w2 : World} {D : Nat → Prop} {B P : Nat} {fold bytes : Bool} {fv : Int} {C : List Ins} {W : World} (hB : B ≤ w2.heap.size) (h : PMid w2 D B P fold bytes fv C W) (o : Obj) : PMid w2 D B P fold bytes fv C (W.alloc o) := by
  obtain ⟨A, n, c, hG, hb, hk, hz⟩ := h
  exact ⟨A, n, c, hG.same ((Below.refl _ _).alloc (Nat.le_refl _) o), hb.alloc (Nat.le_trans hB hz) o, hk.trans (TK.alloc W o), by simp; omega⟩
theorem TK.seti {w W : World} (h : TK w W) {g j : Nat} {cs : Array Value} (hb : Blk W g cs 91) (v : Value) : TK w (W.setCell ⟨g, j, none⟩ v) :=
  ⟨fun q cs' t hq h1 h2 => (h.blk q cs' t hq h1 h2).other (Blk.apart (h.blk q cs' t hq h1 h2) hb h2), fun q o ho hc => (Below.heap_setCell W ⟨g, j, none⟩ v q (fun e => by
    have e : q = g := e
    have := h.obj q o ho hc
    rw [e, hb.row] at this
    cases this
    cases hc)).trans (h.obj q o ho hc)⟩
/-- A fork gets its ways. -/
theorem PMid.put {w2 : World} {D : Nat → Prop} {B P : Nat} {fold bytes : Bool} {fv : Int} {C : List Ins} {W : World} (h : PMid w2 D B P fold bytes fv C W) {i q cap : Nat} (hx : C[i]? = some (insAlt [])) {ws : List Nat} {cs : Array Value} (hq : Blk W q cs 3) (hDq : D q) (hn : ws.length ≤ 100000) (hc : ∀ (j m : Nat), ws[j]? = some m → cs[j]? = some (.int .i64 (m : Int))) :
    ∃ gb c, (W.cell? ⟨P, 2, none⟩ = some (.slice (some ⟨gb, 0, none⟩) C.length c) ∧ (∃ wa wc, W.cell? ⟨gb, i * 5 + 4, none⟩ = some (.slice wa 0 wc)) ∧ W.frozen? ⟨gb, i * 5 + 4, none⟩ = false) ∧ PMid w2 D B P fold bytes fv (C.set i (insAlt ws)) (W.setCell ⟨gb, i * 5 + 4, none⟩ (.slice (some ⟨q, 0, none⟩) ws.length cap)) := by
  obtain ⟨A, n, c, hG, hb, hk, hz⟩ := h
  obtain ⟨hnC, gb, cs0, hA, hBg, hbb, sv, wa, wc, hcell, _⟩ := hG.at hx
  subst hnC
  subst hA
  have hG2 := hG.put hx rfl (wv := .slice (some ⟨q, 0, none⟩) ws.length cap) (ws := ws) rfl hn (fun j m hj => ⟨q, cs, rfl, hDq, hq, hc j m hj⟩)
  have hp := hG.blk.cell 2
  simp only [List.getElem?_toArray, List.getElem?_cons_succ, List.getElem?_cons_zero] at hp
  exact ⟨gb, c, ⟨hp, ⟨wa, wc, hcell⟩, hbb.fro _⟩, _, _, c, hG2, hb.setCell (p := ⟨gb, i * 5 + 4, none⟩) hBg _, hk.seti hbb _, Nat.le_trans hz ((Below.refl 0 W).setCell (p := ⟨gb, i * 5 + 4, none⟩) (Nat.zero_le _) _).size⟩
theorem star_len {f : Nat → List Ins → Nat × List Ins} {n : Nat} (h : LenLe f n) (u : Nat) (C : List Ins) : (starL f u C).2.length ≤ C.length + (n + 1) := h.star u C
set_option maxRecDepth 100000 in
set_option maxHeartbeats 4000000 in
theorem repeat_any {d : Nat} (IH : LK d) {t : Tr} {code : Int} {neg : Bool} {set : List (Int × Int)} {lo hi : Int} (hl : Lim d t) (h0 : 0 ≤ lo ∧ lo ≤ 30 ∧ -1 ≤ hi ∧ hi ≤ 30) {vs : Array Value} {w : World} {D : Nat → Prop} {B P n c : Nat} {fold bytes : Bool} {fv : Int} {A : Option Addr} {C : List Ins}
    (hT : TrV w (SetB w) (.mk 7 code neg set lo hi [t]) vs) (hG : Grow w D B P fold bytes fv A n c C) (u : Nat) (hC : C.length + 90000 * (d + 1) ≤ 1000000000) :
    Calls Tryd.prog 83 #[.pointer (some ⟨P, 0, none⟩), .agg vs, .int .i64 (u : Int)] w (LeadOut w D B P fold bytes fv (repL (fun x E => Tr.laidHead [t] x E) lo hi u C)) := by
  obtain ⟨N2, rfl⟩ : ∃ N2 : Nat, lo = N2 := ⟨lo.toNat, by omega⟩
  have hlen : LenLe (fun x E => Tr.laidHead [t] x E) 400 := fun x E => by
    show (Tr.laidHead [t] x E).2.length ≤ _
    rw [Tr.laidHead]
    cases d with
    | zero => exact hl.elim
    | succ d => cases t; exact hl.2.1 x E
  have hpre : Pre (fun x E => Tr.laidHead [t] x E) := laidHead_pre [t]
  have hh : ∀ x E, Tr.laidHead [t] x E = t.laid x E := fun x E => by rw [Tr.laidHead]
  obtain ⟨F, hF⟩ : ∃ F : Nat → List Ins → Nat × List Ins, (fun x E => Tr.laidHead [t] x E) = F := ⟨_, rfl⟩
  have hFt : ∀ x E, t.laid x E = F x E := fun x E => by rw [← hF]; exact (hh x E).symm
  rw [hF] at hlen hpre ⊢
  obtain ⟨sv, A0, cap, rfl, hkl, hR, hI⟩ := hT.open
  obtain ⟨A3, c3, rfl⟩ := rx_store_set hR
  obtain ⟨g, kind1, code1, neg1, A31, n31, c31, lo1, hi1, A21, n21, c21, hA, _, _⟩ := TrV.at hI 0 t rfl
  subst hA
  have hBw : B ≤ w.heap.size := Nat.le_trans hG.up (Nat.le_of_lt hG.blk.lt)
  have T1 := Blk.new w #[.int .i64 7, .int .i64 code, .bool neg, .slice A3 set.length c3, (.int .i64 (N2 : Int)), .int .i64 hi, .slice (some ⟨g, 0, none⟩) [t].length cap] 58
  have k1 := TK.alloc w (.cells #[.int .i64 7, .int .i64 code, .bool neg, .slice A3 set.length c3, (.int .i64 (N2 : Int)), .int .i64 hi, .slice (some ⟨g, 0, none⟩) [t].length cap] 58)
  have hI1 := hI.tk k1
  have G1 := hG.same ((Below.refl w.heap.size w).alloc (Nat.le_refl _) (.cells #[.int .i64 7, .int .i64 code, .bool neg, .slice A3 set.length c3, (.int .i64 (N2 : Int)), .int .i64 hi, .slice (some ⟨g, 0, none⟩) [t].length cap] 58))
  have b1 := (Below.refl B w).alloc hBw (.cells #[.int .i64 7, .int .i64 code, .bool neg, .slice A3 set.length c3, (.int .i64 (N2 : Int)), .int .i64 hi, .slice (some ⟨g, 0, none⟩) [t].length cap] 58)
  obtain ⟨w1, hw1⟩ : ∃ w1, w.alloc (.cells #[.int .i64 7, .int .i64 code, .bool neg, .slice A3 set.length c3, (.int .i64 (N2 : Int)), .int .i64 hi, .slice (some ⟨g, 0, none⟩) [t].length cap] 58) = w1 := ⟨_, rfl⟩
  have hz1 : w1.heap.size = w.heap.size + 1 := by rw [← hw1]; simp
  rw [hw1] at T1 k1 hI1 G1 b1
  obtain ⟨g', kind1, code1, neg1, A31, n31, c31, lo1, hi1, A21, n21, c21, hA, ⟨u0, u1, u2, u3, u4, u5, u6⟩, hTt⟩ := TrV.at hI1 0 t rfl
  cases hA
  simp only [Nat.zero_mul, Nat.zero_add] at u0 u1 u2 u3 u4 u5 u6
  have K2 := Blk.new w1 #[.int .i64 kind1, .int .i64 code1, .bool neg1, .slice A31 n31 c31, .int .i64 lo1, .int .i64 hi1, .slice A21 n21 c21] 58
  have k2 := TK.alloc w1 (.cells #[.int .i64 kind1, .int .i64 code1, .bool neg1, .slice A31 n31 c31, .int .i64 lo1, .int .i64 hi1, .slice A21 n21 c21] 58)
  have T2 := T1.alloc (.cells #[.int .i64 kind1, .int .i64 code1, .bool neg1, .slice A31 n31 c31, .int .i64 lo1, .int .i64 hi1, .slice A21 n21 c21] 58)
  have G2 := G1.same ((Below.refl w1.heap.size w1).alloc (Nat.le_refl _) (.cells #[.int .i64 kind1, .int .i64 code1, .bool neg1, .slice A31 n31 c31, .int .i64 lo1, .int .i64 hi1, .slice A21 n21 c21] 58))
  have b2 := b1.alloc (by omega) (.cells #[.int .i64 kind1, .int .i64 code1, .bool neg1, .slice A31 n31 c31, .int .i64 lo1, .int .i64 hi1, .slice A21 n21 c21] 58)
  obtain ⟨w2, hw2⟩ : ∃ w2, w1.alloc (.cells #[.int .i64 kind1, .int .i64 code1, .bool neg1, .slice A31 n31 c31, .int .i64 lo1, .int .i64 hi1, .slice A21 n21 c21] 58) = w2 := ⟨_, rfl⟩
  have hz2 : w2.heap.size = w.heap.size + 2 := by rw [← hw2]; simp [hz1]
  rw [hw2] at K2 k2 T2 G2 b2
  rw [hz1] at K2
  have hTt2 := hTt.tk k2
  have hD2 : ∀ g, w2.heap.size ≤ g → (fun g => D g ∨ w.heap.size ≤ g) g := fun g hg => .inr (by omega)
  have M2 : PMid w2 (fun g => D g ∨ w.heap.size ≤ g) B P fold bytes fv C w2 := ⟨A, n, c, G2.weak fun _ h => .inl h, Below.refl _ _, TK.refl _, Nat.le_refl _⟩
  have CL := Lib.hid (fun (X : World) (C' : List Ins) (u' : Nat) (h : PMid w2 (fun g => D g ∨ w.heap.size ≤ g) B P fold bytes fv C' X) (hC' : C'.length + 90000 * d ≤ 1000000000) => show Calls Tryd.prog 46 #[.pointer (some ⟨P, 0, none⟩), .agg #[.int .i64 kind1, .int .i64 code1, .bool neg1, .slice A31 n31 c31, .int .i64 lo1, .int .i64 hi1, .slice A21 n21 c21], .int .i64 (u' : Int)] X fun e w' => e = .returned (.int .i64 (((F u' C').1 : Nat) : Int)) ∧ PMid w2 (fun g => D g ∨ w.heap.size ≤ g) B P fold bytes fv (F u' C').2 w' from by
    have := PMid.lead IH hl hTt2 hD2 h u' hC'
    rw [hFt] at this
    exact this)
  have CA := Lib.hid (fun (X : World) (C' : List Ins) (ws : List Nat) (g cap : Nat) (cs : Array Value) (h : PMid w2 (fun g => D g ∨ w.heap.size ≤ g) B P fold bytes fv C' X) (hC' : C'.length ≤ 1000000000) (hb : Blk X g cs 3) (hg : w.heap.size ≤ g) (hn : ws.length ≤ 100000) (hc : ∀ (j m : Nat), ws[j]? = some m → cs[j]? = some (.int .i64 (m : Int))) => PMid.add hD2 h hC' (insAlt_T (cap := cap) hb (.inr hg) hn hc))
  have CA0 := Lib.hid (fun (X : World) (C' : List Ins) (h : PMid w2 (fun g => D g ∨ w.heap.size ≤ g) B P fold bytes fv C' X) (hC' : C'.length ≤ 1000000000) => PMid.add hD2 h hC' (insAlt_nil X _))
  have HBw2 : B ≤ w2.heap.size := by omega
  have hwz : w.heap.size ≤ w2.heap.size := by omega
  have HZ2 := Lib.hid hz2
  have HM2 := Lib.hid M2
  have HB2 := Lib.hid (And.intro b2 (k1.trans k2))
  have KX := Lib.hid (fun (X : World) (C' : List Ins) (h : PMid w2 (fun g => D g ∨ w.heap.size ≤ g) B P fold bytes fv C' X) => And.intro (h.choose_spec.choose_spec.choose_spec.2.2.1.blk _ _ _ T2 (by decide) (by decide)).seven.1 (h.choose_spec.choose_spec.choose_spec.2.2.1.blk _ _ _ K2 (by decide) (by decide)).seven.1)
  obtain ⟨t10, t11, t12, t13, t14, t15, t16⟩ := T1.seven.1
  obtain ⟨⟨t20, t21, t22, t23, t24, t25, t26⟩, q0, q1, q2, q3, q4, q5, q6⟩ := KX.out w2 C M2
  have HL := Lib.hid (And.intro hlen hpre)
  have HC := Lib.hid hC
  have FIN := Lib.hid (fun (r : Nat × List Ins) (X : World) (h : PMid w2 (fun g => D g ∨ w.heap.size ≤ g) B P fold bytes fv r.2 X) => show LeadOut w D B P fold bytes fv r (.returned (.int .i64 ((r.1 : Nat) : Int))) X from by
    obtain ⟨A', n', c', hG', hb', hk', _⟩ := h
    exact ⟨rfl, A', n', c', hG', HB2.out.1.trans hb', HB2.out.2.trans hk'⟩)
  simp only [List.length_cons, List.length_nil, Nat.zero_add] at hw1 t16 t26
  have hsub0 : IntKind.i64.wrap (hi - (N2 : Int)) = hi - (N2 : Int) := by simp [IntKind.wrap, IntKind.bits, IntKind.signed]; omega
  obtain ⟨S0, hS0⟩ : ∃ S0 : Int, hi - (N2 : Int) = S0 := ⟨_, rfl⟩
  have hsub : IntKind.i64.wrap (hi - (N2 : Int)) = S0 := hsub0.trans hS0
  have hSb : S0 ≤ 30 := by omega
  have hN2 : N2 ≤ 30 := by omega
  have HRP := Lib.hid (show ∀ e0 C0, (if hi = -1 then starL F u C else (u, C)) = (e0, C0) → repL F N2 hi u C = iterL F N2 (iterL (optL F u) S0.toNat e0 C0).1 (iterL (optL F u) S0.toNat e0 C0).2 from fun e0 C0 h => by unfold repL; rw [h, hS0]; rfl)
  clear hsub0 hS0
  clear hT hG hR hI hI1 G1 G2 T1 T2 K2 k1 k2 b1 b2 hTt hTt2 hD2 M2 hkl hlen hpre hF hFt hh hC
  have hcase : hi = -1 ∨ hi ≠ -1 := Decidable.em _
  rcases hcase with rfl | hm
  case' inl =>
    have HLC := Lib.hid (star_len HL.out.1 u C)
    go_enter Tryd.func83, Tryd.ntmps83
    go_wp2_with fail
    clear hw1 hw2 hz1 hz2
    refine (CA0.out w2 C HM2.out (by have := HC.out; omega)).mono ?_
    rintro e X1 ⟨rfl, hM1⟩
    have HM1 := Lib.hid hM1
    obtain ⟨_, q0, q1, q2, q3, q4, q5, q6⟩ := KX.out X1 _ hM1
    obtain ⟨m, hm⟩ : ∃ m, C.length = m := ⟨_, rfl⟩
    rw [hm]
    have HM := Lib.hid hm
    clear hM1 hm t20 t21 t22 t23 t24 t25 t26 t10 t11 t12 t13 t14 t15 t16 u0 u1 u2 u3 u4 u5 u6
    go_wp2_with fail
    refine (CL.out X1 _ m HM1.out (by have := HC.out; simp; omega)).mono ?_
    rintro e X2 ⟨rfl, hM2⟩
    obtain ⟨⟨r1, r2⟩, hr⟩ : ∃ r, F m (C ++ [insAlt []]) = r := ⟨_, rfl⟩
    have hrm : r2[m]? = some (insAlt []) := by
      have e : (F m (C ++ [insAlt []])).2 = r2 := by rw [hr]
      rw [← e, HL.out.2 _ _ m (by have := HM.out; simp; omega), ← HM.out, getElem?_app_last]
    have hst : starL F u C = (m, r2.set m (insAlt [r1, u])) := by
      unfold starL
      rw [HM.out, hr]
    rw [hr] at hM2 ⊢
    simp only at hM2 hrm hst ⊢
    have hml : m < r2.length := (List.getElem?_eq_some_iff.1 hrm).1
    have Q3 := Blk.new X2 #[.int .i64 (r1 : Int), .int .i64 (u : Int)] 3
    have M3 := PMid.alloc HBw2 hM2 (.cells #[.int .i64 (r1 : Int), .int .i64 (u : Int)] 3)
    have hz3 := hM2.choose_spec.choose_spec.choose_spec.2.2.2
    obtain ⟨gb, cc, ⟨p2, ⟨wa, wc, hcl⟩, hfr⟩, M4⟩ := M3.put (cap := 2) hrm (ws := [r1, u]) Q3 (.inr (by omega)) (by simp) (fun j x hj => by
      match j, hj with
      | 0, hj => obtain rfl : r1 = x := by simpa using hj
                 rfl
      | 1, hj => obtain rfl : u = x := by simpa using hj
                 rfl
      | j + 2, hj => simp at hj)
    have p20 : X2.cell? ⟨P, 2, none⟩ = some (.slice (some ⟨gb, 0, none⟩) r2.length cc) := by
      obtain ⟨A', n', c', hG', _⟩ := hM2
      have h1 := hG'.blk.cell 2
      simp only [List.getElem?_toArray, List.getElem?_cons_succ, List.getElem?_cons_zero] at h1
      have h2 := (hG'.blk.alloc (.cells #[.int .i64 (r1 : Int), .int .i64 (u : Int)] 3)).cell 2
      simp only [List.getElem?_toArray, List.getElem?_cons_succ, List.getElem?_cons_zero] at h2
      rw [p2] at h2
      rw [h1, ← h2]
    obtain ⟨rl, hrl⟩ : ∃ rl, r2.length = rl := ⟨_, rfl⟩
    rw [hrl] at p20 hml
    have hi0 : ¬ (m : Int) < 0 := by omega
    have hi1 : (m : Int) < (rl : Int) := by omega
    obtain ⟨W4, hW4⟩ : ∃ W4, (X2.alloc (.cells #[.int .i64 (r1 : Int), .int .i64 (u : Int)] 3)).setCell ⟨gb, m * 5 + 4, none⟩ (.slice (some ⟨X2.heap.size, 0, none⟩) 2 2) = W4 := ⟨_, rfl⟩
    have M4 : PMid w2 (fun g => D g ∨ w.heap.size ≤ g) B P fold bytes fv (r2.set m (insAlt [r1, u])) W4 := hW4 ▸ M4
    obtain ⟨⟨t20, t21, t22, t23, t24, t25, t26⟩, _⟩ := KX.out W4 _ M4
    have HM4 := Lib.hid M4
    have HR0 := Lib.hid (HRP.out m (r2.set m (insAlt [r1, u])) (by first | (rw [if_pos rfl]; exact hst) | (simp only [if_true]; exact hst)))
    have HLC2 := Lib.hid (show (r2.set m (insAlt [r1, u])).length ≤ C.length + 401 by have := HLC.out; rw [hst] at this; exact this)
    have HE := Lib.hid (show m = m from rfl)
    obtain ⟨C0, hC0⟩ : ∃ C0, r2.set m (insAlt [r1, u]) = C0 := ⟨_, rfl⟩
    rw [hC0] at HR0 HLC2 HM4
    have HMID := Lib.hid HM4.out
    clear p2 M3 M4 Q3 hM2 hr hrm hst hrl q0 q1 q2 q3 q4 q5 q6 hz3
    try clear h0
    clear hC0
    go_wp2_with fail
    clear hW4
    clear t20 t21 t22 t23 t24 t25 t26
  case' inr =>
    have hmb : (hi == -1) = false := by rw [beq_eq_false_iff_ne]; exact hm
    have HR0 := Lib.hid (HRP.out u C (if_neg hm))
    obtain ⟨m, hmu⟩ : ∃ m, u = m := ⟨_, rfl⟩
    have HE := Lib.hid hmu
    obtain ⟨C0, hC0⟩ : ∃ C0, C = C0 := ⟨_, rfl⟩
    have HLC2 := Lib.hid (show C0.length ≤ C.length + 401 by rw [← hC0]; omega)
    have HR0 := Lib.hid (show repL F N2 hi u C = iterL F N2 (iterL (optL F u) S0.toNat m C0).1 (iterL (optL F u) S0.toNat m C0).2 by rw [← hmu, ← hC0]; exact HR0.out)
    clear hm hmu
    go_enter Tryd.func83, Tryd.ntmps83
    go_wp2_with fail
    obtain ⟨Wc, hWc⟩ : ∃ Wc, w2 = Wc := ⟨_, rfl⟩
    have HMID := Lib.hid (show PMid w2 (fun g => D g ∨ w.heap.size ≤ g) B P fold bytes fv C0 Wc from hWc ▸ hC0 ▸ HM2.out)
    clear hw1 hw2 hz1 hz2 hC0 t20 t21 t22 t23 t24 t25 t26 t10 t11 t12 t13 t14 t15 t16 u0 u1 u2 u3 u4 u5 u6 q0 q1 q2 q3 q4 q5 q6
    rw [hWc]
    clear hWc
  all_goals
    try clear h0
    go_loopw [8, 41] (fun ev jv wr => ∃ j : Nat, ev = .int .i64 (((iterL (optL F u) j m C0).1 : Nat) : Int) ∧ jv = .int .i64 (j : Int) ∧ (j : Int) ≤ max S0 0 ∧ PMid w2 (fun g => D g ∨ w.heap.size ≤ g) B P fold bytes fv (iterL (optL F u) j m C0).2 wr) (fun _ jv _ => S0.toNat - (RowKit.intOf jv).toNat)
    case atStart => exact ⟨0, by first | rfl | (rw [HE.out]; rfl), rfl, by omega, HMID.out⟩
    case round =>
      obtain ⟨j, rfl, rfl, hj, hM⟩ := hrel
      obtain ⟨⟨e1, C1⟩, hr⟩ : ∃ r, iterL (optL F u) j m C0 = r := ⟨_, rfl⟩
      have hC1 : C1.length ≤ C.length + 401 + j * 401 := by
        have := (HL.out.1.opt u).iter j m C0
        rw [hr] at this
        have h2 := HLC2.out
        simp only at this
        omega
      rw [hr] at hM ⊢
      simp only at hM ⊢
      have HR := Lib.hid hr
      have HM := Lib.hid hM
      have HC1 := Lib.hid hC1
      obtain ⟨⟨t20, t21, t22, t23, t24, t25, t26⟩, q0, q1, q2, q3, q4, q5, q6⟩ := KX.out wr _ hM
      clear hM hr hC1
      by_cases hlt : (j : Int) < S0
      · obtain ⟨j1, hj1⟩ : ∃ j1, j + 1 = j1 := ⟨_, rfl⟩
        have hw2 : IntKind.i64.wrap ((j : Int) + 1) = (j1 : Int) := by simp [IntKind.wrap, IntKind.bits, IntKind.signed]; omega
        have HJ := Lib.hid hj1
        clear hj1 t20 t21 t22 t23 t24 t25 t26
        go_wp2_with fail
        refine (CL.out wr C1 e1 HM.out (by have := HC.out; have := HC1.out; omega)).mono ?_
        rintro e X2 ⟨rfl, hM2⟩
        obtain ⟨⟨f1, D1⟩, hr⟩ : ∃ r, F e1 C1 = r := ⟨_, rfl⟩
        have hD1 := HL.out.1 e1 C1
        rw [hr] at hM2 hD1 ⊢
        simp only at hM2 hD1 ⊢
        have hz3 := hM2.choose_spec.choose_spec.choose_spec.2.2.2
        have Q3 := Blk.new X2 #[.int .i64 (f1 : Int), .int .i64 (u : Int)] 3
        have M3 := PMid.alloc HBw2 hM2 (.cells #[.int .i64 (f1 : Int), .int .i64 (u : Int)] 3)
        have CA2 := Lib.hid (CA.out _ D1 [f1, u] X2.heap.size 2 _ M3 (by have := HC.out; have := HC1.out; omega) Q3 (by omega) (by simp) (fun j x hj => by
          match j, hj with
          | 0, hj => obtain rfl : f1 = x := by simpa using hj
                     rfl
          | 1, hj => obtain rfl : u = x := by simpa using hj
                     rfl
          | j + 2, hj => simp at hj))
        have HO := Lib.hid (show iterL (optL F u) j1 m C0 = (D1.length, D1 ++ [insAlt [f1, u]]) by rw [← HJ.out, iterL_snoc, HR.out]; unfold optL; simp only [hr])
        clear hM2 hD1 hr hz3 Q3 M3 q0 q1 q2 q3 q4 q5 q6
        go_wp2_with fail
        refine CA2.out.mono ?_
        rintro e X4 ⟨rfl, hM4⟩
        have HM4 := Lib.hid hM4
        clear hM4
        go_wp2_with fail
        refine ⟨⟨j1, by rw [HO.out], rfl, by have := HJ.out; omega, by rw [HO.out]; exact HM4.out⟩, ?_⟩
        have := HJ.out
        simp [RowKit.intOf]
        omega
      · have HN := Lib.hid (show S0.toNat = j by omega)
        have hSj : S0 ≤ (j : Int) := by omega
        clear q0 q1 q2 q3 q4 q5 q6
        go_wp2_with fail
        clear t20 t21 t22 t23 t24 t25 t26
        go_loopw [8, 56] (fun ev iv wr => ∃ i : Nat, ev = .int .i64 (((iterL F i e1 C1).1 : Nat) : Int) ∧ iv = .int .i64 (i : Int) ∧ i ≤ N2 ∧ PMid w2 (fun g => D g ∨ w.heap.size ≤ g) B P fold bytes fv (iterL F i e1 C1).2 wr) (fun _ iv _ => N2 - (RowKit.intOf iv).toNat)
        case atStart => exact ⟨0, rfl, rfl, Nat.zero_le _, HM.out⟩
        case round =>
          obtain ⟨i, rfl, rfl, hi, hM2⟩ := hrel
          obtain ⟨⟨e2, C2⟩, hr⟩ : ∃ r, iterL F i e1 C1 = r := ⟨_, rfl⟩
          have hC2 : C2.length ≤ C1.length + i * 400 := by
            have := HL.out.1.iter i e1 C1
            rw [hr] at this
            exact this
          rw [hr] at hM2 ⊢
          simp only at hM2 ⊢
          have HR2 := Lib.hid hr
          have HM2' := Lib.hid hM2
          have HC2 := Lib.hid hC2
          obtain ⟨_, q0, q1, q2, q3, q4, q5, q6⟩ := KX.out wr _ hM2
          clear hM2 hr hC2
          by_cases hlt2 : i < N2
          · obtain ⟨i1, hi1⟩ : ∃ i1, i + 1 = i1 := ⟨_, rfl⟩
            have hw2 : IntKind.i64.wrap ((i : Int) + 1) = (i1 : Int) := by simp [IntKind.wrap, IntKind.bits, IntKind.signed]; omega
            have HI1 := Lib.hid hi1
            have hil : i1 ≤ N2 := by omega
            clear hi1
            go_wp2_with fail
            refine (CL.out wr C2 e2 HM2'.out (by have := HC.out; have := HC1.out; have := HC2.out; omega)).mono ?_
            rintro e X2 ⟨rfl, hM3⟩
            have HM3 := Lib.hid hM3
            have HO := Lib.hid (show iterL F i1 e1 C1 = F e2 C2 by rw [← HI1.out, iterL_snoc, HR2.out])
            clear hM3 q0 q1 q2 q3 q4 q5 q6
            go_wp2_with fail
            refine ⟨⟨i1, by rw [HO.out], rfl, hil, by rw [HO.out]; exact HM3.out⟩, ?_⟩
            have := HI1.out
            simp [RowKit.intOf]
            omega
          · obtain rfl : i = N2 := by omega
            have HX := Lib.hid (show repL F i _ u C = (e2, C2) by rw [HR0.out, HN.out, HR.out]; exact HR2.out)
            clear q0 q1 q2 q3 q4 q5 q6
            go_wp2_with fail
            go_ret
            have := FIN.out (e2, C2) wr HM2'.out
            rw [HX.out]
            exact this
end Go.Proofs.YtdfacbcenogplaaDoor
