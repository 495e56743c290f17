/- Several texts in one (The walk of the law RxJoins (printed by tools/gen_rxjoin.py); What the rows of layer 9 give: the library's tables and a number of its own). -/
import Derived.Shelf.Vars
import Derived.Test.YtmfcofiihopbfaaDoorQj5
namespace Go.Proofs.YtmfcofiihopbfaaDoor
open Go.RowKit Go.Lib

def flK (x y : Tr) : Nat → List Tr
  | 0 => []
  | 1 => flatT x
  | _ => flatT x ++ flatT y
theorem rxj_app (a b : ByteArray) : (a ++ b).data.toList = a.data.toList ++ b.data.toList := by simp
theorem tr_keep {w V : World} {P : Nat → Prop} {t : Tr} {vs : Array Value} {cs : Array Value} {T : TypeId} (h : TrV w P t vs) (hV : w.alloc (.cells cs T) = V) : ∀ X, Below V.heap.size V X → TrV X (fun g => g < V.heap.size) t vs := fun X hb => by
  subst hV
  exact (h.kept (w' := w.alloc (.cells cs T)) (P' := fun g => g < (w.alloc (.cells cs T)).heap.size) (fun g hg _ => ⟨by simp; omega, Below.heap_alloc w _ g hg⟩)).kept (fun g hg hp => ⟨hp, hb.block g hg⟩)
theorem gath_hk {w U w' : World} {n : Nat} {v : Value} {k : Nat} {xs : List Value} {t : TypeId} {z : Nat} (ho : w.ownsRow n t z v k xs) (hU : ∀ g, g < w.heap.size → U.heap[g]? = w.heap[g]?) (hs : w.heap.size ≤ U.heap.size) (hn : n ≤ w.heap.size) (hgr : U.grownBy w' v.ownBlock) : ∀ g, g < n → w'.heap[g]? = w.heap[g]? := fun g hg =>
  (hgr.block g (by omega) (fun e => by have := (ho.lt g e.symm).1; omega)).trans (hU g (by omega))

set_option maxRecDepth 100000 in
set_option maxHeartbeats 40000000 in
theorem rxJoins_any (s1 s2 : ByteArray) (r1 : s1.size ≤ 140737488351232) (r2 : s2.size ≤ 140737488351232) {W : World} (hE : REnv W) : Calls Tryd.prog 4 #[.string s1, .string s2] W fun e w' => e = .returned (.bool true) ∧ Below W.heap.size W w' := by
  have CF := Lib.hid (rxFixed_any hE)
  obtain ⟨sm, hsm⟩ : ∃ sm : Nat, s1.size + s2.size = sm := ⟨_, rfl⟩
  have hws : IntKind.i64.wrap ((s1.size : Int) + (s2.size : Int)) = (sm : Int) := by simp [IntKind.wrap, IntKind.bits, IntKind.signed]; omega
  by_cases hbig : 900 < sm
  · have hd : decide ((900 : Int) < (sm : Int)) = true := decide_eq_true (by omega)
    clear hE
    go_enter Tryd.func4, Tryd.ntmps4
    go_wp2_with fail
    refine CF.out.mono ?_
    rintro e w1 ⟨rfl, hb⟩
    have HB := Lib.hid hb
    clear hb CF
    go_wp2_with fail
    go_ret
    exact ⟨rfl, HB.out⟩
  have hd : decide ((900 : Int) < (sm : Int)) = false := decide_eq_false (by omega)
  have z1 : s1.size ≤ 1024 := by omega
  have z2 : s2.size ≤ 1024 := by omega
  obtain ⟨x, p, e, hR1⟩ : ∃ x p e, rxParse s1 false = (x, p, e) := ⟨_, _, _, rfl⟩
  obtain ⟨y, q, f, hR2⟩ : ∃ x p e, rxParse s2 false = (x, p, e) := ⟨_, _, _, rfl⟩
  have HE := Lib.hid hE
  have CP1 := Lib.hid (fun w (hb : Below W.heap.size W w) => show Calls Tryd.prog 8 #[.string s1, .bool false] w (PrsOut w (x, p, e)) from hR1 ▸ rx_parse z1 false (hE.kept hb))
  have CP2 := Lib.hid (fun w (hb : Below W.heap.size W w) => show Calls Tryd.prog 8 #[.string s2, .bool false] w (PrsOut w (y, q, f)) from hR2 ▸ rx_parse z2 false (hE.kept hb))
  clear hE
  by_cases he : e = 0
  · subst he
    by_cases hf : f = 0
    · subst hf
      have zG : s1.size ≤ 900 := by omega
      obtain ⟨G1, hG1⟩ : ∃ S, (⟨#[40]⟩ : ByteArray) ++ s1 = S := ⟨_, rfl⟩
      obtain ⟨G, hG⟩ : ∃ S, G1 ++ (⟨#[41]⟩ : ByteArray) = S := ⟨_, rfl⟩
      obtain ⟨T1, hT1⟩ : ∃ S, s1 ++ (⟨#[124]⟩ : ByteArray) = S := ⟨_, rfl⟩
      obtain ⟨T, hT⟩ : ∃ S, T1 ++ s2 = S := ⟨_, rfl⟩
      have lG : G.data.toList = 40 :: (s1.data.toList ++ [41]) := by rw [← hG, ← hG1, rxj_app, rxj_app]; rfl
      have lT : T.data.toList = s1.data.toList ++ (124 :: s2.data.toList) := by rw [← hT, ← hT1, rxj_app, rxj_app]; simp
      have zG1 : G1.size ≤ 1000 := by rw [← hG1, ByteArray.size_append, show (ByteArray.mk #[40]).size = 1 from rfl]; omega
      have zGG : G.size ≤ 1024 := by rw [← hG, ByteArray.size_append, show (ByteArray.mk #[41]).size = 1 from rfl]; omega
      have zT1 : T1.size ≤ 1000 := by rw [← hT1, ByteArray.size_append, show (ByteArray.mk #[124]).size = 1 from rfl]; omega
      have zT : T.size ≤ 1024 := by rw [← hT, ByteArray.size_append, ← hT1, ByteArray.size_append, show (ByteArray.mk #[124]).size = 1 from rfl]; omega
      have a1 : ∀ w, (Op.stringOp .add ⟨#[40]⟩ s1).run Tryd.prog w = .ok (.string G1) w := fun w => (run_string_add_sum w _ _ (by rw [show (ByteArray.mk #[40]).size = 1 from rfl]; omega)).trans (by rw [hG1])
      have a2 : ∀ w, (Op.stringOp .add G1 ⟨#[41]⟩).run Tryd.prog w = .ok (.string G) w := fun w => (run_string_add_sum w _ _ (by rw [show (ByteArray.mk #[41]).size = 1 from rfl]; omega)).trans (by rw [hG])
      have a3 : ∀ w, (Op.stringOp .add s1 ⟨#[124]⟩).run Tryd.prog w = .ok (.string T1) w := fun w => (run_string_add_sum w _ _ (by rw [show (ByteArray.mk #[124]).size = 1 from rfl]; omega)).trans (by rw [hT1])
      have a4 : ∀ w, (Op.stringOp .add T1 s2).run Tryd.prog w = .ok (.string T) w := fun w => (run_string_add_sum w _ _ (by omega)).trans (by rw [hT])
      have JG := join_group hR1 zG lG
      have JT := join_alt hR1 hR2 (by omega) lT
      have al1 := parse_alt hR1
      have al2 := parse_alt hR2
      have CPG := Lib.hid (fun r (hr : rxParse G false = r) w (hb : Below W.heap.size W w) => show Calls Tryd.prog 8 #[.string G, .bool false] w (PrsOut w r) from hr ▸ rx_parse zGG false (HE.out.kept hb))
      have CPT := Lib.hid (fun r (hr : rxParse T false = r) w (hb : Below W.heap.size W w) => show Calls Tryd.prog 8 #[.string T, .bool false] w (PrsOut w r) from hr ▸ rx_parse zT false (HE.out.kept hb))
      clear hG1 hG hT1 hT lG lT zG1 zGG zT1 zT zG hR1 hR2 z1 z2 hbig hsm r1 r2
      obtain ⟨k1, c1, n1, set1, lo1, hi1, kids1⟩ := x
      obtain ⟨k2, c2, n2, set2, lo2, hi2, kids2⟩ := y
      obtain ⟨X, hX⟩ : ∃ X, Tr.mk k1 c1 n1 set1 lo1 hi1 kids1 = X := ⟨_, rfl⟩
      obtain ⟨Y, hY⟩ : ∃ X, Tr.mk k2 c2 n2 set2 lo2 hi2 kids2 = X := ⟨_, rfl⟩
      have HX := Lib.hid hX
      have HY := Lib.hid hY
      rw [hX] at CP1 JG JT al1
      rw [hY] at CP2 JT al2
      obtain ⟨m1, hm1⟩ : ∃ m, kids1.length = m := ⟨_, rfl⟩
      obtain ⟨m2, hm2⟩ : ∃ m, kids2.length = m := ⟨_, rfl⟩
      have HM1 := Lib.hid hm1
      have HM2 := Lib.hid hm2
      obtain ⟨us, bs, un, bn, eX, eY, JT⟩ := JT
      have FL := Lib.hid (show flatT X ++ flatT Y = us ++ bs ∨ (us ++ bs).length < (flatT X ++ flatT Y).length from by
        have := flats un bn (eX ▸ al1) (eY ▸ al2)
        rw [← eX, ← eY] at this
        exact this)
      have FX := Lib.hid (show flatT X = if k1 = 6 ∧ kids1 ≠ [] then kids1 else [X] from by rw [← hX]; rfl)
      have FY := Lib.hid (show flatT Y = if k2 = 6 ∧ kids2 ≠ [] then kids2 else [Y] from by rw [← hY]; rfl)
      have TX := Lib.hid (fun (w : World) (P : Nat → Prop) (vs : Array Value) (h : TrV w P X vs) => show ∃ A3 c3 A cp, vs = #[.int .i64 k1, .int .i64 c1, .bool n1, .slice A3 set1.length c3, .int .i64 lo1, .int .i64 hi1, .slice A m1 cp] ∧ m1 ≤ 100000 from by
        obtain ⟨sv, A, cp, e, hk, hR, _⟩ := (show TrV w P (Tr.mk k1 c1 n1 set1 lo1 hi1 kids1) vs from hX ▸ h).open
        obtain ⟨A3, c3, rfl⟩ := rx_store_set hR
        rw [hm1] at e hk
        exact ⟨A3, c3, A, cp, e, hk⟩)
      have TY := Lib.hid (fun (w : World) (P : Nat → Prop) (vs : Array Value) (h : TrV w P Y vs) => show ∃ A3 c3 A cp, vs = #[.int .i64 k2, .int .i64 c2, .bool n2, .slice A3 set2.length c3, .int .i64 lo2, .int .i64 hi2, .slice A m2 cp] ∧ m2 ≤ 100000 from by
        obtain ⟨sv, A, cp, e, hk, hR, _⟩ := (show TrV w P (Tr.mk k2 c2 n2 set2 lo2 hi2 kids2) vs from hY ▸ h).open
        obtain ⟨A3, c3, rfl⟩ := rx_store_set hR
        rw [hm2] at e hk
        exact ⟨A3, c3, A, cp, e, hk⟩)
      have IX := Lib.hid (fun (w : World) (P : Nat → Prop) (A3 A : Option Addr) (m3 c3 cp : Nat) (h : TrV w P X #[.int .i64 k1, .int .i64 c1, .bool n1, .slice A3 m3 c3, .int .i64 lo1, .int .i64 hi1, .slice A m1 cp]) => show Tr.Ins w P kids1 A 0 from by
        obtain ⟨sv, A', cp', e, hk, hR, hI⟩ := (show TrV w P (Tr.mk k1 c1 n1 set1 lo1 hi1 kids1) _ from hX ▸ h).open
        simp only [Array.mk.injEq, List.cons.injEq, Value.slice.injEq] at e
        obtain ⟨_, _, _, _, _, _, ⟨e1, _, _⟩, _⟩ := e
        rw [e1]
        exact hI)
      have IY := Lib.hid (fun (w : World) (P : Nat → Prop) (A3 A : Option Addr) (m3 c3 cp : Nat) (h : TrV w P Y #[.int .i64 k2, .int .i64 c2, .bool n2, .slice A3 m3 c3, .int .i64 lo2, .int .i64 hi2, .slice A m2 cp]) => show Tr.Ins w P kids2 A 0 from by
        obtain ⟨sv, A', cp', e, hk, hR, hI⟩ := (show TrV w P (Tr.mk k2 c2 n2 set2 lo2 hi2 kids2) _ from hY ▸ h).open
        simp only [Array.mk.injEq, List.cons.injEq, Value.slice.injEq] at e
        obtain ⟨_, _, _, _, _, _, ⟨e1, _, _⟩, _⟩ := e
        rw [e1]
        exact hI)
      have AX := Lib.hid (show k1 = 6 → kids1 ≠ [] from fun h e => by
        have q : 2 ≤ kids1.length := (show Alt2 (Tr.mk k1 c1 n1 set1 lo1 hi1 kids1) from hX ▸ al1) h
        rw [e] at q
        simp at q)
      have AY := Lib.hid (show k2 = 6 → kids2 ≠ [] from fun h e => by
        have q : 2 ≤ kids2.length := (show Alt2 (Tr.mk k2 c2 n2 set2 lo2 hi2 kids2) from hY ▸ al2) h
        rw [e] at q
        simp at q)
      obtain ⟨wx, hwx⟩ : ∃ w, Tr.wt X = w := ⟨_, rfl⟩
      obtain ⟨wy, hwy⟩ : ∃ w, Tr.wt Y = w := ⟨_, rfl⟩
      have wx1 := wt_in X
      have wy1 := wt_in Y
      rw [hwx] at JT wx1
      rw [hwy] at JT wy1
      have hww : IntKind.i64.wrap (wx + wy) = wx + wy := by simp [IntKind.wrap, IntKind.bits, IntKind.signed]; omega
      have WX := Lib.hid (fun (w : World) (P : Nat → Prop) (vs : Array Value) (h : TrV w P X vs) => show Calls Tryd.prog 10 #[.agg vs] w (fun e w' => e = .returned (.int .i64 wx) ∧ Below w.heap.size w w') from hwx ▸ rx_weight h)
      have WY := Lib.hid (fun (w : World) (P : Nat → Prop) (vs : Array Value) (h : TrV w P Y vs) => show Calls Tryd.prog 10 #[.agg vs] w (fun e w' => e = .returned (.int .i64 wy) ∧ Below w.heap.size w w') from hwy ▸ rx_weight h)
      obtain ⟨r0, ri, rz0, rz1, rz2⟩ := info_parts info_rx
      have HR := Lib.hid (And.intro ri (And.intro rz0 (And.intro rz1 rz2)))
      obtain ⟨n, hn⟩ : ∃ n, us.length + bs.length = n := ⟨_, rfl⟩
      have HN := Lib.hid (show (us ++ bs).length = n by rw [List.length_append, hn])
      clear hX hY hm1 hm2 eX eY al1 al2 un bn hwx hwy wx1 wy1 ri rz0 rz1 rz2 hn HE
      go_enter Tryd.func4, Tryd.ntmps4
      go_wp2_with fail
      refine CF.out.mono ?_
      rintro e w1 ⟨rfl, hb⟩
      have HB := Lib.hid hb
      clear hb CF
      go_wp2_with fail
      refine (CP1.out _ HB.out).mono ?_
      rintro e w2 ⟨vs, rfl, ht, hq⟩
      obtain ⟨A31, c31, A1, cp1, rfl, hk1⟩ := TX.out _ _ _ ht
      obtain ⟨m31, hm31⟩ : ∃ m, set1.length = m := ⟨_, rfl⟩
      rw [hm31] at ht ⊢
      clear hm31
      have HW2 := Lib.hid (HB.out.trans (hq.mono HB.out.size))
      clear hq HB CP1
      have F1 := Blk.new w2 #[.int .i64 k1, .int .i64 c1, .bool n1, .slice A31 m31 c31, .int .i64 lo1, .int .i64 hi1, .slice A1 m1 cp1] 30
      obtain ⟨V2, hV2⟩ : ∃ V, w2.alloc (.cells #[.int .i64 k1, .int .i64 c1, .bool n1, .slice A31 m31 c31, .int .i64 lo1, .int .i64 hi1, .slice A1 m1 cp1] 30) = V := ⟨_, rfl⟩
      rw [hV2] at F1
      have HT1 := Lib.hid (tr_keep ht hV2)
      have HV2 := Lib.hid (show Below W.heap.size W V2 from hV2 ▸ HW2.out.alloc HW2.out.size _)
      have HF1 := Lib.hid F1
      clear ht F1
      go_wp2_with fail
      clear hV2
      refine (CP2.out _ HV2.out).mono ?_
      rintro e w3 ⟨vs, rfl, ht, hq⟩
      obtain ⟨A32, c32, A2, cp2, rfl, hk2⟩ := TY.out _ _ _ ht
      obtain ⟨m32, hm32⟩ : ∃ m, set2.length = m := ⟨_, rfl⟩
      rw [hm32] at ht ⊢
      clear hm32
      have HW3 := Lib.hid (HV2.out.trans (hq.mono HV2.out.size))
      have B3 := hq
      clear CP2
      have B23 := Lib.hid B3
      have F2 := Blk.new w3 #[.int .i64 k2, .int .i64 c2, .bool n2, .slice A32 m32 c32, .int .i64 lo2, .int .i64 hi2, .slice A2 m2 cp2] 30
      obtain ⟨V3, hV3⟩ : ∃ V, w3.alloc (.cells #[.int .i64 k2, .int .i64 c2, .bool n2, .slice A32 m32 c32, .int .i64 lo2, .int .i64 hi2, .slice A2 m2 cp2] 30) = V := ⟨_, rfl⟩
      rw [hV3] at F2
      have HT2 := Lib.hid (tr_keep ht hV3)
      have HV3 := Lib.hid (show Below W.heap.size W V3 from hV3 ▸ HW3.out.alloc HW3.out.size _)
      have HF2 := Lib.hid F2
      clear ht F2
      have D2 := Lib.hid (show Below V2.heap.size V2 V3 from hV3 ▸ B23.out.alloc B23.out.size _)
      clear B3 B23 hq HW2 HW3
      go_wp2_with fail
      clear hV3
      rcases JG with hg | ⟨pg, hg⟩
      ·
        refine (CPG.out _ hg _ HV3.out).mono ?_
        rintro e w4 ⟨vs, rfl, ht, hq⟩
        obtain ⟨k3, c3, n3, A33, m33, c33, lo3, hi3, A3, m3, cp3, rfl⟩ := ht.form
        have HW4 := Lib.hid (HV3.out.trans (hq.mono HV3.out.size))
        have F3 := Blk.new w4 #[.int .i64 k3, .int .i64 c3, .bool n3, .slice A33 m33 c33, .int .i64 lo3, .int .i64 hi3, .slice A3 m3 cp3] 30
        obtain ⟨V4, hV4⟩ : ∃ V, w4.alloc (.cells #[.int .i64 k3, .int .i64 c3, .bool n3, .slice A33 m33 c33, .int .i64 lo3, .int .i64 hi3, .slice A3 m3 cp3] 30) = V := ⟨_, rfl⟩
        rw [hV4] at F3
        have HT3 := Lib.hid (tr_keep ht hV4)
        have HV4 := Lib.hid (show Below W.heap.size W V4 from hV4 ▸ HW4.out.alloc HW4.out.size _)
        have HF3 := Lib.hid F3
        clear ht F3
        have hq4 : Below V3.heap.size V3 V4 := hV4 ▸ hq.alloc hq.size _
        have D2b := Lib.hid (D2.out.trans (hq4.mono D2.out.size))
        have D3 := Lib.hid hq4
        obtain ⟨⟨x0, x1, x2, x3, x4, x5, x6⟩, _⟩ := (HF1.out.below D2b.out HF1.out.lt).seven
        obtain ⟨⟨y0, y1, y2, y3, y4, y5, y6⟩, _⟩ := HF3.out.seven
        clear hq hq4 CPG D2 hg HW4
        go_wp2_with fail
        clear hV4
        refine (rx_same (HT3.out _ (Below.refl _ _)) (HT1.out _ D2b.out)).mono ?_
        rintro e V5 ⟨rfl, hq⟩
        have HV5 := Lib.hid (HV4.out.trans (hq.mono HV4.out.size))
        have E2 := Lib.hid (D2b.out.trans (hq.mono D2b.out.size))
        have E3 := Lib.hid (D3.out.trans (hq.mono D3.out.size))
        clear hq x0 x1 x2 x3 x4 x5 x6 y0 y1 y2 y3 y4 y5 y6 HT3 HF3 HV4 D2b D3
        go_wp2_with fail
        rcases JT with ht | ⟨ht, hwt⟩
        ·
          refine (CPT.out _ ht _ HV5.out).mono ?_
          clear ht
          rintro e w6 ⟨vs, rfl, ht, hq⟩
          obtain ⟨sv4, A4, cp4, rfl, hn4, hR4, _⟩ := (show TrV w6 _ (Tr.mk 6 0 false [] 0 0 (us ++ bs)) vs from ht).open
          obtain ⟨A34, c34, rfl⟩ := rx_store_set hR4
          rw [HN.out] at ht hn4 ⊢
          clear hR4
          simp only [List.length_nil] at ht ⊢
          have F4 := Blk.new w6 #[.int .i64 6, .int .i64 0, .bool false, .slice A34 0 c34, .int .i64 0, .int .i64 0, .slice A4 n cp4] 30
          obtain ⟨V6, hV6⟩ : ∃ V, w6.alloc (.cells #[.int .i64 6, .int .i64 0, .bool false, .slice A34 0 c34, .int .i64 0, .int .i64 0, .slice A4 n cp4] 30) = V := ⟨_, rfl⟩
          rw [hV6] at F4
          have HT4 := Lib.hid (tr_keep ht hV6)
          have hq6 : Below _ _ V6 := hV6 ▸ hq.alloc hq.size _
          have HV6 := Lib.hid (HV5.out.trans (hq6.mono HV5.out.size))
          have G2 := Lib.hid (E2.out.trans (hq6.mono E2.out.size))
          have G3 := Lib.hid (E3.out.trans (hq6.mono E3.out.size))
          have HF4 := Lib.hid F4
          have HC1 := Lib.hid (fun w (hb : Below V6.heap.size V6 w) => (HF1.out.below (G2.out.trans (hb.mono G2.out.size)) HF1.out.lt).seven.1)
          have HC2 := Lib.hid (fun w (hb : Below V6.heap.size V6 w) => (HF2.out.below (G3.out.trans (hb.mono G3.out.size)) HF2.out.lt).seven.1)
          have HA1 := Lib.hid (fun w (hb : Below V6.heap.size V6 w) => HT1.out w (G2.out.trans (hb.mono G2.out.size)))
          have HA2 := Lib.hid (fun w (hb : Below V6.heap.size V6 w) => HT2.out w (G3.out.trans (hb.mono G3.out.size)))
          have h23 := G2.out.size
          have h33 := G3.out.size
          obtain ⟨x0, x1, x2, x3, x4, x5, x6⟩ := HC1.out _ (Below.refl _ _)
          obtain ⟨y0, y1, y2, y3, y4, y5, y6⟩ := HC2.out _ (Below.refl _ _)
          clear hq hq6 ht CPT E2 E3 HV5 F4 G2 G3 HF1 HF2
          go_wp2_with fail
          clear hV6 x0 x1 x2 x3 x4 x5 x6 y0 y1 y2 y3 y4 y5 y6
          go_loopw [17, 94] (fun sv iv wr => ∃ (kv : Value) (k : Nat), kv = sv ∧ iv = .int .i64 (k : Int) ∧ k ≤ 2 ∧ LKs wr V6.heap.size kv (flK X Y k) ∧ Below V6.heap.size V6 wr) (fun _ iv _ => 2 - (RowKit.intOf iv).toNat)
          case atStart => exact ⟨_, 0, rfl, rfl, by omega, LKs.nil _ _, Below.refl _ _⟩
          case round =>
            obtain ⟨kv, k, rfl, rfl, hk, hL, hB⟩ := hrel
            have hk3 : k = 0 ∨ k = 1 ∨ k = 2 := by omega
            rcases hk3 with rfl | rfl | rfl
            ·
              have hix : ∀ w, (Instr.index 35 (.agg #[.int .i64 k1, .int .i64 c1, .bool n1, .slice A31 m31 c31, .int .i64 lo1, .int .i64 hi1, .slice A1 m1 cp1, .int .i64 k2, .int .i64 c2, .bool n2, .slice A32 m32 c32, .int .i64 lo2, .int .i64 hi2, .slice A2 m2 cp2]) (.int .i64 0)).run Tryd.prog w = .ok (.agg #[.int .i64 k1, .int .i64 c1, .bool n1, .slice A31 m31 c31, .int .i64 lo1, .int .i64 hi1, .slice A1 m1 cp1]) w := fun _ => rfl
              have hTr := HA1.out wr hB
              have hbn := hB.size
              have FU := Blk.new wr #[.int .i64 k1, .int .i64 c1, .bool n1, .slice A31 m31 c31, .int .i64 lo1, .int .i64 hi1, .slice A1 m1 cp1] 30
              obtain ⟨U, hU⟩ : ∃ V, wr.alloc (.cells #[.int .i64 k1, .int .i64 c1, .bool n1, .slice A31 m31 c31, .int .i64 lo1, .int .i64 hi1, .slice A1 m1 cp1] 30) = V := ⟨_, rfl⟩
              have hUb : ∀ g, g < wr.heap.size → U.heap[g]? = wr.heap[g]? := fun g hg => hU ▸ Below.heap_alloc wr _ g hg
              have hUs : wr.heap.size + 1 ≤ U.heap.size ∧ U.heap.size ≤ wr.heap.size + 1 := by rw [← hU]; simp
              have hBU : Below V6.heap.size V6 U := hU ▸ hB.alloc hB.size _
              rw [hU] at FU
              obtain ⟨⟨u0, u1, u2, u3, u4, u5, u6⟩, _⟩ := FU.seven
              obtain ⟨KS, hKS⟩ : ∃ l, flK X Y 0 = l := ⟨_, rfl⟩
              rw [hKS] at hL
              obtain ⟨xs, ho, hx⟩ := hL
              have NEXT := Lib.hid (show flK X Y 1 = KS ++ flatT X from by rw [← hKS]; rfl)
              have hKL : KS.length ≤ 100000 := by
                rw [← hKS]
                show ([] : List Tr).length ≤ 100000
                simp
              obtain ⟨kl, hkl⟩ : ∃ l, KS.length = l := ⟨_, rfl⟩
              rw [hkl] at ho hKL
              have HKL := Lib.hid hkl
              have hxl := ho.1
              by_cases hfl : k1 = 6 ∧ kids1 ≠ []
              ·
                have hF := FX.out
                rw [if_pos hfl] at hF
                have HFl := Lib.hid hF
                obtain ⟨h6, hne⟩ := hfl
                have hpos : 0 < m1 := by rw [← HM1.out]; exact List.length_pos_iff.2 hne
                obtain ⟨g, ys, hA, hg, hyl, hyc, hy1, hyt⟩ := ins_vals (IX.out _ _ _ _ _ _ _ hTr) hne
                have hgw : g < V6.heap.size := by have hg : g < V2.heap.size := hg; omega
                have hyc2 : ∀ j u, ys[j]? = some u → U.cell? ((⟨g, 0, none⟩ : Addr).add j) = some u := fun j u h => by
                  have h2 := hyc j u h
                  rw [Addr.add_lit] at h2 ⊢
                  exact (World.cell?_of_block (a := ⟨g, 0 + j, none⟩) (hUb g (by omega))).trans h2
                have hyt2 : ∀ (j : Nat) (t : Tr), kids1[j]? = some t → t.In wr (fun g => g < V6.heap.size) (rdL ys (j * 7)) := fun j t h => (hyt j t h).kept (fun g _ hp => ⟨by have hp : g < V2.heap.size := hp; omega, rfl⟩)
                rw [HM1.out] at hyl
                subst hA h6
                have hgt : decide (0 < (m1 : Int)) = true := decide_eq_true (by omega)
                have HOU := Lib.hid (show U.ownsRow V6.heap.size 30 7 kv kl xs from hU ▸ ho.alloc _)
                have HYS := Lib.hid (And.intro hyl (And.intro hyc2 hy1))
                have DONE := Lib.hid (fun (v' : Value) (w' : World) (h2 : w'.ownsRow V6.heap.size 30 7 v' (kl + m1) (xs ++ ys)) (hgr : U.grownBy w' kv.ownBlock) => show LKs w' V6.heap.size v' (flK X Y 1) ∧ Below V6.heap.size V6 w' from ⟨by
                  rw [NEXT.out, HFl.out]
                  exact LKs.app (by rw [hxl, HKL.out]) hx (by rw [hyl, HM1.out]) hyt2 (gath_hk ho hUb (by omega) hbn hgr) (by rw [HKL.out, HM1.out]; exact h2), hBU.grown hgr (by omega) (fun r e => (ho.lt r e).1)⟩)
                clear hyc hyt hyt2 hyc2 hy1 hx hTr hB hBU hkl hKS hF hne hUb FU ho hyl
                go_wp2_with (at_builtin; refine wpList_append_own_at _ rfl _ _ 28 rfl V6.heap.size 30 r0 _ 7 88 Tryd.underlying28 HR.out.1 HR.out.2.1 HR.out.2.2.1 HR.out.2.2.2 rfl (by decide) _ kl xs rfl HOU.out ⟨g, 0, none⟩ m1 cp1 ys rfl HYS.out.1 HYS.out.2.1 HYS.out.2.2 (by unfold maxLen; omega) (by omega) (by omega) ?_)
                rintro v2 w7 ho2 hgr _ _
                obtain ⟨D1, D2⟩ := DONE.out _ _ ho2 hgr
                have HD1 := Lib.hid D1
                have HD2 := Lib.hid D2
                clear hU D1 D2 ho2 hgr u0 u1 u2 u3 u4 u5 u6 DONE HOU HYS
                go_wp2_with fail
                refine ⟨?_, by simp [RowKit.intOf]⟩
                iterate 23 apply Exists.intro
                exact ⟨⟨v2, 1, rfl, rfl, by omega, HD1.out, HD2.out⟩, rfl⟩
              ·
                have hF := FX.out
                rw [if_neg hfl] at hF
                have HFl := Lib.hid hF
                have hone : ∀ (j : Nat) (t : Tr), [X][j]? = some t → t.In wr (fun g => g < V6.heap.size) (rdL [.int .i64 k1, .int .i64 c1, .bool n1, .slice A31 m31 c31, .int .i64 lo1, .int .i64 hi1, .slice A1 m1 cp1] (j * 7)) := fun j t h => by
                  cases j with
                  | zero =>
                    obtain rfl : X = t := by simpa using h
                    refine (hTr.2.kept (P' := fun g => g < V6.heap.size) (fun g _ hp => ⟨by have hp : g < V2.heap.size := hp; omega, rfl⟩)).congr fun i hi => ?_
                    rw [rdL, Nat.zero_mul, Nat.zero_add]
                    simp
                  | succ j => simp at h
                have HOU := Lib.hid (show U.ownsRow V6.heap.size 30 7 kv kl xs from hU ▸ ho.alloc _)
                have DONE := Lib.hid (fun (v' : Value) (w' : World) (h2 : w'.ownsRow V6.heap.size 30 7 v' (kl + 1) (xs ++ [.int .i64 k1, .int .i64 c1, .bool n1, .slice A31 m31 c31, .int .i64 lo1, .int .i64 hi1, .slice A1 m1 cp1])) (hgr : (U.alloc (.cells #[.int .i64 k1, .int .i64 c1, .bool n1, .slice A31 m31 c31, .int .i64 lo1, .int .i64 hi1, .slice A1 m1 cp1] 30)).grownBy w' kv.ownBlock) => show LKs w' V6.heap.size v' (flK X Y 1) ∧ Below V6.heap.size V6 w' from ⟨by
                  rw [NEXT.out, HFl.out]
                  exact LKs.app (by rw [hxl, HKL.out]) hx (by rfl) hone (gath_hk ho (fun g hg => (Below.heap_alloc U _ g (by omega)).trans (hUb g hg)) (by rw [World.size_alloc]; omega) hbn hgr) (by rw [HKL.out]; exact h2), (hBU.alloc hBU.size _).grown hgr (by rw [World.size_alloc]; omega) (fun r e => (ho.lt r e).1)⟩)
                have RN := Lib.hid (show ∀ jj u, [.int .i64 k1, .int .i64 c1, .bool n1, .slice A31 m31 c31, .int .i64 lo1, .int .i64 hi1, .slice A1 m1 cp1][jj]? = some u → (U.alloc (.cells #[.int .i64 k1, .int .i64 c1, .bool n1, .slice A31 m31 c31, .int .i64 lo1, .int .i64 hi1, .slice A1 m1 cp1] 30)).cell? ((⟨U.heap.size, 0, none⟩ : Addr).add jj) = some u from rx_row_new U #[.int .i64 k1, .int .i64 c1, .bool n1, .slice A31 m31 c31, .int .i64 lo1, .int .i64 hi1, .slice A1 m1 cp1] 30)
                have h6d : (k1 == 6) = false := beq_eq_false_iff_ne.2 fun h6 => hfl ⟨h6, AX.out h6⟩
                clear hx hTr hB hBU hkl hKS hF hUb FU ho hone hfl
                go_wp2_with (at_builtin; refine wpList_append_own_at _ rfl _ _ 28 rfl V6.heap.size 30 r0 _ 7 88 Tryd.underlying28 HR.out.1 HR.out.2.1 HR.out.2.2.1 HR.out.2.2.2 rfl (by decide) _ kl xs rfl (HOU.out.alloc _) ⟨U.heap.size, 0, none⟩ 1 1 [.int .i64 k1, .int .i64 c1, .bool n1, .slice A31 m31 c31, .int .i64 lo1, .int .i64 hi1, .slice A1 m1 cp1] rfl rfl RN.out (by simp [Value.oneCell']) (by unfold maxLen; omega) (by omega) (by rw [World.size_alloc]; omega) ?_)
                rintro v2 w7 ho2 hgr _ _
                obtain ⟨D1, D2⟩ := DONE.out _ _ ho2 hgr
                have HD1 := Lib.hid D1
                have HD2 := Lib.hid D2
                clear hU D1 D2 ho2 hgr u0 u1 u2 u3 u4 u5 u6 DONE HOU RN
                go_wp2_with fail
                refine ⟨?_, by simp [RowKit.intOf]⟩
                iterate 23 apply Exists.intro
                exact ⟨⟨v2, 1, rfl, rfl, by omega, HD1.out, HD2.out⟩, rfl⟩
            ·
              have hix : ∀ w, (Instr.index 35 (.agg #[.int .i64 k1, .int .i64 c1, .bool n1, .slice A31 m31 c31, .int .i64 lo1, .int .i64 hi1, .slice A1 m1 cp1, .int .i64 k2, .int .i64 c2, .bool n2, .slice A32 m32 c32, .int .i64 lo2, .int .i64 hi2, .slice A2 m2 cp2]) (.int .i64 1)).run Tryd.prog w = .ok (.agg #[.int .i64 k2, .int .i64 c2, .bool n2, .slice A32 m32 c32, .int .i64 lo2, .int .i64 hi2, .slice A2 m2 cp2]) w := fun _ => rfl
              have hTr := HA2.out wr hB
              have hbn := hB.size
              have FU := Blk.new wr #[.int .i64 k2, .int .i64 c2, .bool n2, .slice A32 m32 c32, .int .i64 lo2, .int .i64 hi2, .slice A2 m2 cp2] 30
              obtain ⟨U, hU⟩ : ∃ V, wr.alloc (.cells #[.int .i64 k2, .int .i64 c2, .bool n2, .slice A32 m32 c32, .int .i64 lo2, .int .i64 hi2, .slice A2 m2 cp2] 30) = V := ⟨_, rfl⟩
              have hUb : ∀ g, g < wr.heap.size → U.heap[g]? = wr.heap[g]? := fun g hg => hU ▸ Below.heap_alloc wr _ g hg
              have hUs : wr.heap.size + 1 ≤ U.heap.size ∧ U.heap.size ≤ wr.heap.size + 1 := by rw [← hU]; simp
              have hBU : Below V6.heap.size V6 U := hU ▸ hB.alloc hB.size _
              rw [hU] at FU
              obtain ⟨⟨u0, u1, u2, u3, u4, u5, u6⟩, _⟩ := FU.seven
              obtain ⟨KS, hKS⟩ : ∃ l, flK X Y 1 = l := ⟨_, rfl⟩
              rw [hKS] at hL
              obtain ⟨xs, ho, hx⟩ := hL
              have NEXT := Lib.hid (show flK X Y 2 = KS ++ flatT Y from by rw [← hKS]; rfl)
              have hKL : KS.length ≤ 100000 := by
                rw [← hKS]
                show (flatT X).length ≤ 100000
                rw [FX.out]
                have := HM1.out
                split
                · omega
                · simp
              obtain ⟨kl, hkl⟩ : ∃ l, KS.length = l := ⟨_, rfl⟩
              rw [hkl] at ho hKL
              have HKL := Lib.hid hkl
              have hxl := ho.1
              by_cases hfl : k2 = 6 ∧ kids2 ≠ []
              ·
                have hF := FY.out
                rw [if_pos hfl] at hF
                have HFl := Lib.hid hF
                obtain ⟨h6, hne⟩ := hfl
                have hpos : 0 < m2 := by rw [← HM2.out]; exact List.length_pos_iff.2 hne
                obtain ⟨g, ys, hA, hg, hyl, hyc, hy1, hyt⟩ := ins_vals (IY.out _ _ _ _ _ _ _ hTr) hne
                have hgw : g < V6.heap.size := by have hg : g < V3.heap.size := hg; omega
                have hyc2 : ∀ j u, ys[j]? = some u → U.cell? ((⟨g, 0, none⟩ : Addr).add j) = some u := fun j u h => by
                  have h2 := hyc j u h
                  rw [Addr.add_lit] at h2 ⊢
                  exact (World.cell?_of_block (a := ⟨g, 0 + j, none⟩) (hUb g (by omega))).trans h2
                have hyt2 : ∀ (j : Nat) (t : Tr), kids2[j]? = some t → t.In wr (fun g => g < V6.heap.size) (rdL ys (j * 7)) := fun j t h => (hyt j t h).kept (fun g _ hp => ⟨by have hp : g < V3.heap.size := hp; omega, rfl⟩)
                rw [HM2.out] at hyl
                subst hA h6
                have hgt : decide (0 < (m2 : Int)) = true := decide_eq_true (by omega)
                have HOU := Lib.hid (show U.ownsRow V6.heap.size 30 7 kv kl xs from hU ▸ ho.alloc _)
                have HYS := Lib.hid (And.intro hyl (And.intro hyc2 hy1))
                have DONE := Lib.hid (fun (v' : Value) (w' : World) (h2 : w'.ownsRow V6.heap.size 30 7 v' (kl + m2) (xs ++ ys)) (hgr : U.grownBy w' kv.ownBlock) => show LKs w' V6.heap.size v' (flK X Y 2) ∧ Below V6.heap.size V6 w' from ⟨by
                  rw [NEXT.out, HFl.out]
                  exact LKs.app (by rw [hxl, HKL.out]) hx (by rw [hyl, HM2.out]) hyt2 (gath_hk ho hUb (by omega) hbn hgr) (by rw [HKL.out, HM2.out]; exact h2), hBU.grown hgr (by omega) (fun r e => (ho.lt r e).1)⟩)
                clear hyc hyt hyt2 hyc2 hy1 hx hTr hB hBU hkl hKS hF hne hUb FU ho hyl
                go_wp2_with (at_builtin; refine wpList_append_own_at _ rfl _ _ 28 rfl V6.heap.size 30 r0 _ 7 88 Tryd.underlying28 HR.out.1 HR.out.2.1 HR.out.2.2.1 HR.out.2.2.2 rfl (by decide) _ kl xs rfl HOU.out ⟨g, 0, none⟩ m2 cp2 ys rfl HYS.out.1 HYS.out.2.1 HYS.out.2.2 (by unfold maxLen; omega) (by omega) (by omega) ?_)
                rintro v2 w7 ho2 hgr _ _
                obtain ⟨D1, D2⟩ := DONE.out _ _ ho2 hgr
                have HD1 := Lib.hid D1
                have HD2 := Lib.hid D2
                clear hU D1 D2 ho2 hgr u0 u1 u2 u3 u4 u5 u6 DONE HOU HYS
                go_wp2_with fail
                refine ⟨?_, by simp [RowKit.intOf]⟩
                iterate 23 apply Exists.intro
                exact ⟨⟨v2, 2, rfl, rfl, by omega, HD1.out, HD2.out⟩, rfl⟩
              ·
                have hF := FY.out
                rw [if_neg hfl] at hF
                have HFl := Lib.hid hF
                have hone : ∀ (j : Nat) (t : Tr), [Y][j]? = some t → t.In wr (fun g => g < V6.heap.size) (rdL [.int .i64 k2, .int .i64 c2, .bool n2, .slice A32 m32 c32, .int .i64 lo2, .int .i64 hi2, .slice A2 m2 cp2] (j * 7)) := fun j t h => by
                  cases j with
                  | zero =>
                    obtain rfl : Y = t := by simpa using h
                    refine (hTr.2.kept (P' := fun g => g < V6.heap.size) (fun g _ hp => ⟨by have hp : g < V3.heap.size := hp; omega, rfl⟩)).congr fun i hi => ?_
                    rw [rdL, Nat.zero_mul, Nat.zero_add]
                    simp
                  | succ j => simp at h
                have HOU := Lib.hid (show U.ownsRow V6.heap.size 30 7 kv kl xs from hU ▸ ho.alloc _)
                have DONE := Lib.hid (fun (v' : Value) (w' : World) (h2 : w'.ownsRow V6.heap.size 30 7 v' (kl + 1) (xs ++ [.int .i64 k2, .int .i64 c2, .bool n2, .slice A32 m32 c32, .int .i64 lo2, .int .i64 hi2, .slice A2 m2 cp2])) (hgr : (U.alloc (.cells #[.int .i64 k2, .int .i64 c2, .bool n2, .slice A32 m32 c32, .int .i64 lo2, .int .i64 hi2, .slice A2 m2 cp2] 30)).grownBy w' kv.ownBlock) => show LKs w' V6.heap.size v' (flK X Y 2) ∧ Below V6.heap.size V6 w' from ⟨by
                  rw [NEXT.out, HFl.out]
                  exact LKs.app (by rw [hxl, HKL.out]) hx (by rfl) hone (gath_hk ho (fun g hg => (Below.heap_alloc U _ g (by omega)).trans (hUb g hg)) (by rw [World.size_alloc]; omega) hbn hgr) (by rw [HKL.out]; exact h2), (hBU.alloc hBU.size _).grown hgr (by rw [World.size_alloc]; omega) (fun r e => (ho.lt r e).1)⟩)
                have RN := Lib.hid (show ∀ jj u, [.int .i64 k2, .int .i64 c2, .bool n2, .slice A32 m32 c32, .int .i64 lo2, .int .i64 hi2, .slice A2 m2 cp2][jj]? = some u → (U.alloc (.cells #[.int .i64 k2, .int .i64 c2, .bool n2, .slice A32 m32 c32, .int .i64 lo2, .int .i64 hi2, .slice A2 m2 cp2] 30)).cell? ((⟨U.heap.size, 0, none⟩ : Addr).add jj) = some u from rx_row_new U #[.int .i64 k2, .int .i64 c2, .bool n2, .slice A32 m32 c32, .int .i64 lo2, .int .i64 hi2, .slice A2 m2 cp2] 30)
                have h6d : (k2 == 6) = false := beq_eq_false_iff_ne.2 fun h6 => hfl ⟨h6, AY.out h6⟩
                clear hx hTr hB hBU hkl hKS hF hUb FU ho hone hfl
                go_wp2_with (at_builtin; refine wpList_append_own_at _ rfl _ _ 28 rfl V6.heap.size 30 r0 _ 7 88 Tryd.underlying28 HR.out.1 HR.out.2.1 HR.out.2.2.1 HR.out.2.2.2 rfl (by decide) _ kl xs rfl (HOU.out.alloc _) ⟨U.heap.size, 0, none⟩ 1 1 [.int .i64 k2, .int .i64 c2, .bool n2, .slice A32 m32 c32, .int .i64 lo2, .int .i64 hi2, .slice A2 m2 cp2] rfl rfl RN.out (by simp [Value.oneCell']) (by unfold maxLen; omega) (by omega) (by rw [World.size_alloc]; omega) ?_)
                rintro v2 w7 ho2 hgr _ _
                obtain ⟨D1, D2⟩ := DONE.out _ _ ho2 hgr
                have HD1 := Lib.hid D1
                have HD2 := Lib.hid D2
                clear hU D1 D2 ho2 hgr u0 u1 u2 u3 u4 u5 u6 DONE HOU RN
                go_wp2_with fail
                refine ⟨?_, by simp [RowKit.intOf]⟩
                iterate 23 apply Exists.intro
                exact ⟨⟨v2, 2, rfl, rfl, by omega, HD1.out, HD2.out⟩, rfl⟩
            ·
              have hL : LKs wr V6.heap.size kv (flatT X ++ flatT Y) := hL
              obtain ⟨A, cp, rfl⟩ := hL.slice
              have hI := hL.ins
              have hkl : (flatT X ++ flatT Y).length ≤ 300000 := by
                rw [List.length_append, FX.out, FY.out]
                have h1 := HM1.out
                have h2 := HM2.out
                have : ((if k1 = 6 ∧ kids1 ≠ [] then kids1 else [X]) : List Tr).length ≤ 100000 := by
                  split
                  · omega
                  · simp
                have : ((if k2 = 6 ∧ kids2 ≠ [] then kids2 else [Y]) : List Tr).length ≤ 100000 := by
                  split
                  · omega
                  · simp
                omega
              have HZ := Lib.hid (HT4.out wr hB)
              have FB := Lib.hid (HV6.out.trans (hB.mono HV6.out.size))
              obtain ⟨⟨x0, x1, x2, x3, x4, x5, x6⟩, _⟩ := (HF4.out.below hB HF4.out.lt).seven
              have HKF := Lib.hid (fun (w : World) (hb : Below wr.heap.size wr w) => ((HF4.out.below hB HF4.out.lt).below hb (Nat.lt_of_lt_of_le HF4.out.lt hB.size)).seven.1)
              rcases FL.out with hfl | hfl
              ·
                rw [hfl] at hL hI hkl ⊢
                rw [HN.out] at hkl ⊢
                have CS := Lib.hid (rx_same HZ.out (show TrV wr (fun _ => True) (trN 6 (us ++ bs)) #[.int .i64 6, .int .i64 0, .bool false, .slice none 0 0, .int .i64 0, .int .i64 0, .slice A n cp] from HN.out ▸ TrV.mk (by rw [HN.out]; omega) (RgIn.nil _ _ none 0) hI))
                clear hL hI hB hk hfl HKF
                go_wp2_with fail
                refine CS.out.mono ?_
                rintro e w8 ⟨rfl, hq⟩
                have HBf := Lib.hid (FB.out.trans (hq.mono FB.out.size))
                clear hq CS x0 x1 x2 x3 x4 x5 x6
                go_wp2_with fail
                go_ret
                exact ⟨rfl, HBf.out⟩
              ·
                obtain ⟨kl, hkl2⟩ : ∃ l, (flatT X ++ flatT Y).length = l := ⟨_, rfl⟩
                rw [hkl2] at hkl hfl ⊢
                rw [HN.out] at hfl
                have hlt : decide ((n : Int) < (kl : Int)) = true := decide_eq_true (by omega)
                have CS := Lib.hid (rx_same_no2 (W := wr) (A := A4) (B := A) (C := A34) (c3 := c34) (n := n) (m := kl) (cap := cp4) (bap := cp) (by omega) (by omega) (by omega))
                clear hL hI hB hk hkl2
                go_wp2_with fail
                refine CS.out.mono ?_
                rintro e w8 ⟨rfl, hq⟩
                have HBf := Lib.hid (FB.out.trans (hq.mono FB.out.size))
                clear x0 x1 x2 x3 x4 x5 x6
                obtain ⟨x0, x1, x2, x3, x4, x5, x6⟩ := HKF.out _ hq
                clear hq CS HKF
                go_wp2_with fail
                go_ret
                exact ⟨rfl, HBf.out⟩
        ·
          refine (CPT.out _ ht _ HV5.out).mono ?_
          clear ht
          rintro e w6 ⟨vs, rfl, ht, hq⟩
          obtain ⟨k4, c4, n4, A34, m34, c34, lo4, hi4, A4, m4, cp4, rfl⟩ := ht.form
          have F4 := Blk.new w6 #[.int .i64 k4, .int .i64 c4, .bool n4, .slice A34 m34 c34, .int .i64 lo4, .int .i64 hi4, .slice A4 m4 cp4] 30
          obtain ⟨V6, hV6⟩ : ∃ V, w6.alloc (.cells #[.int .i64 k4, .int .i64 c4, .bool n4, .slice A34 m34 c34, .int .i64 lo4, .int .i64 hi4, .slice A4 m4 cp4] 30) = V := ⟨_, rfl⟩
          rw [hV6] at F4
          have HT4 := Lib.hid (tr_keep ht hV6)
          have hq6 : Below _ _ V6 := hV6 ▸ hq.alloc hq.size _
          have HV6 := Lib.hid (HV5.out.trans (hq6.mono HV5.out.size))
          have G2 := Lib.hid (E2.out.trans (hq6.mono E2.out.size))
          have G3 := Lib.hid (E3.out.trans (hq6.mono E3.out.size))
          have HF4 := Lib.hid F4
          have HC1 := Lib.hid (fun w (hb : Below V6.heap.size V6 w) => (HF1.out.below (G2.out.trans (hb.mono G2.out.size)) HF1.out.lt).seven.1)
          have HC2 := Lib.hid (fun w (hb : Below V6.heap.size V6 w) => (HF2.out.below (G3.out.trans (hb.mono G3.out.size)) HF2.out.lt).seven.1)
          have HA1 := Lib.hid (fun w (hb : Below V6.heap.size V6 w) => HT1.out w (G2.out.trans (hb.mono G2.out.size)))
          have HA2 := Lib.hid (fun w (hb : Below V6.heap.size V6 w) => HT2.out w (G3.out.trans (hb.mono G3.out.size)))
          have h23 := G2.out.size
          have h33 := G3.out.size
          obtain ⟨x0, x1, x2, x3, x4, x5, x6⟩ := HC1.out _ (Below.refl _ _)
          obtain ⟨y0, y1, y2, y3, y4, y5, y6⟩ := HC2.out _ (Below.refl _ _)
          clear hq hq6 ht CPT E2 E3 HV5 F4 G2 G3 HF1 HF2
          have hge : decide (200 ≤ wx + wy) = true := decide_eq_true (by omega)
          have KP := Lib.hid (fun (w : World) (hb : Below V6.heap.size V6 w) => show (w.cell? ⟨w2.heap.size, 0, none⟩ = some (.int .i64 k1) ∧ w.cell? ⟨w2.heap.size, 1, none⟩ = some (.int .i64 c1) ∧ w.cell? ⟨w2.heap.size, 2, none⟩ = some (.bool n1) ∧ w.cell? ⟨w2.heap.size, 3, none⟩ = some (.slice A31 m31 c31) ∧ w.cell? ⟨w2.heap.size, 4, none⟩ = some (.int .i64 lo1) ∧ w.cell? ⟨w2.heap.size, 5, none⟩ = some (.int .i64 hi1) ∧ w.cell? ⟨w2.heap.size, 6, none⟩ = some (.slice A1 m1 cp1)) ∧ (w.cell? ⟨w3.heap.size, 0, none⟩ = some (.int .i64 k2) ∧ w.cell? ⟨w3.heap.size, 1, none⟩ = some (.int .i64 c2) ∧ w.cell? ⟨w3.heap.size, 2, none⟩ = some (.bool n2) ∧ w.cell? ⟨w3.heap.size, 3, none⟩ = some (.slice A32 m32 c32) ∧ w.cell? ⟨w3.heap.size, 4, none⟩ = some (.int .i64 lo2) ∧ w.cell? ⟨w3.heap.size, 5, none⟩ = some (.int .i64 hi2) ∧ w.cell? ⟨w3.heap.size, 6, none⟩ = some (.slice A2 m2 cp2)) from ⟨HC1.out w hb, HC2.out w hb⟩)
          have hR0 := Below.refl V6.heap.size V6
          clear HF4 HT4 hwt
          go_wp2_with fail
          clear hV6
          go_region_held3 (fun w' => (w'.cell? ⟨w2.heap.size, 0, none⟩ = some (.int .i64 k1) ∧ w'.cell? ⟨w2.heap.size, 1, none⟩ = some (.int .i64 c1) ∧ w'.cell? ⟨w2.heap.size, 2, none⟩ = some (.bool n1) ∧ w'.cell? ⟨w2.heap.size, 3, none⟩ = some (.slice A31 m31 c31) ∧ w'.cell? ⟨w2.heap.size, 4, none⟩ = some (.int .i64 lo1) ∧ w'.cell? ⟨w2.heap.size, 5, none⟩ = some (.int .i64 hi1) ∧ w'.cell? ⟨w2.heap.size, 6, none⟩ = some (.slice A1 m1 cp1)) ∧ (w'.cell? ⟨w3.heap.size, 0, none⟩ = some (.int .i64 k2) ∧ w'.cell? ⟨w3.heap.size, 1, none⟩ = some (.int .i64 c2) ∧ w'.cell? ⟨w3.heap.size, 2, none⟩ = some (.bool n2) ∧ w'.cell? ⟨w3.heap.size, 3, none⟩ = some (.slice A32 m32 c32) ∧ w'.cell? ⟨w3.heap.size, 4, none⟩ = some (.int .i64 lo2) ∧ w'.cell? ⟨w3.heap.size, 5, none⟩ = some (.int .i64 hi2) ∧ w'.cell? ⟨w3.heap.size, 6, none⟩ = some (.slice A2 m2 cp2)))
            (first | (with_reducible exact S8) | (with_reducible exact S7) | go_keep)
            (first
            | (go_at_call 10; (with_reducible refine (WX.out _ _ _ (HA1.out _ (by first | exact hR0 | exact hR0.drew | exact below_drewN hR0 _))).mono ?_); rintro e X7 ⟨rfl, h⟩; have b7 : Below V6.heap.size V6 X7 := ⟨h.os, h.tape, h.output, h.size, h.block⟩; have S7 := KP.out _ b7; clear h)
            | (go_at_call 10; (with_reducible refine (WY.out _ _ _ (HA2.out _ (by first | exact b7 | exact b7.drew | exact below_drewN b7 _))).mono ?_); rintro e X8 ⟨rfl, h⟩; have b8 : Below V6.heap.size V6 X8 := b7.trans ((⟨h.os, h.tape, h.output, h.size, h.block⟩ : Below X7.heap.size X7 X8).mono b7.size); have S8 := KP.out _ b8; clear h))
          all_goals
            have HBf := Lib.hid (HV6.out.trans (b8.mono HV6.out.size))
            clear b7 b8 S7 S8 x0 x1 x2 x3 x4 x5 x6 y0 y1 y2 y3 y4 y5 y6
            go_wp2_with fail
            go_ret
            exact ⟨rfl, HBf.out⟩
      ·
        refine (CPG.out _ hg _ HV3.out).mono ?_
        rintro e w4 ⟨vs, rfl, ht, hq⟩
        obtain ⟨k3, c3, n3, A33, m33, c33, lo3, hi3, A3, m3, cp3, rfl⟩ := ht.form
        have HW4 := Lib.hid (HV3.out.trans (hq.mono HV3.out.size))
        have F3 := Blk.new w4 #[.int .i64 k3, .int .i64 c3, .bool n3, .slice A33 m33 c33, .int .i64 lo3, .int .i64 hi3, .slice A3 m3 cp3] 30
        obtain ⟨V4, hV4⟩ : ∃ V, w4.alloc (.cells #[.int .i64 k3, .int .i64 c3, .bool n3, .slice A33 m33 c33, .int .i64 lo3, .int .i64 hi3, .slice A3 m3 cp3] 30) = V := ⟨_, rfl⟩
        rw [hV4] at F3
        have HT3 := Lib.hid (tr_keep ht hV4)
        have HV4 := Lib.hid (show Below W.heap.size W V4 from hV4 ▸ HW4.out.alloc HW4.out.size _)
        have HF3 := Lib.hid F3
        clear ht F3
        have hq4 : Below V3.heap.size V3 V4 := hV4 ▸ hq.alloc hq.size _
        have D2b := Lib.hid (D2.out.trans (hq4.mono D2.out.size))
        have D3 := Lib.hid hq4
        obtain ⟨⟨x0, x1, x2, x3, x4, x5, x6⟩, _⟩ := (HF1.out.below D2b.out HF1.out.lt).seven
        obtain ⟨⟨y0, y1, y2, y3, y4, y5, y6⟩, _⟩ := HF3.out.seven
        clear hq hq4 CPG D2 hg HW4
        go_wp2_with fail
        clear hV4
        have HV5 := HV4
        have E2 := D2b
        have E3 := D3
        clear x0 x1 x2 x3 x4 x5 x6 y0 y1 y2 y3 y4 y5 y6 HT3 HF3 HV4 D2b D3
        rcases JT with ht | ⟨ht, hwt⟩
        ·
          refine (CPT.out _ ht _ HV5.out).mono ?_
          clear ht
          rintro e w6 ⟨vs, rfl, ht, hq⟩
          obtain ⟨sv4, A4, cp4, rfl, hn4, hR4, _⟩ := (show TrV w6 _ (Tr.mk 6 0 false [] 0 0 (us ++ bs)) vs from ht).open
          obtain ⟨A34, c34, rfl⟩ := rx_store_set hR4
          rw [HN.out] at ht hn4 ⊢
          clear hR4
          simp only [List.length_nil] at ht ⊢
          have F4 := Blk.new w6 #[.int .i64 6, .int .i64 0, .bool false, .slice A34 0 c34, .int .i64 0, .int .i64 0, .slice A4 n cp4] 30
          obtain ⟨V6, hV6⟩ : ∃ V, w6.alloc (.cells #[.int .i64 6, .int .i64 0, .bool false, .slice A34 0 c34, .int .i64 0, .int .i64 0, .slice A4 n cp4] 30) = V := ⟨_, rfl⟩
          rw [hV6] at F4
          have HT4 := Lib.hid (tr_keep ht hV6)
          have hq6 : Below _ _ V6 := hV6 ▸ hq.alloc hq.size _
          have HV6 := Lib.hid (HV5.out.trans (hq6.mono HV5.out.size))
          have G2 := Lib.hid (E2.out.trans (hq6.mono E2.out.size))
          have G3 := Lib.hid (E3.out.trans (hq6.mono E3.out.size))
          have HF4 := Lib.hid F4
          have HC1 := Lib.hid (fun w (hb : Below V6.heap.size V6 w) => (HF1.out.below (G2.out.trans (hb.mono G2.out.size)) HF1.out.lt).seven.1)
          have HC2 := Lib.hid (fun w (hb : Below V6.heap.size V6 w) => (HF2.out.below (G3.out.trans (hb.mono G3.out.size)) HF2.out.lt).seven.1)
          have HA1 := Lib.hid (fun w (hb : Below V6.heap.size V6 w) => HT1.out w (G2.out.trans (hb.mono G2.out.size)))
          have HA2 := Lib.hid (fun w (hb : Below V6.heap.size V6 w) => HT2.out w (G3.out.trans (hb.mono G3.out.size)))
          have h23 := G2.out.size
          have h33 := G3.out.size
          obtain ⟨x0, x1, x2, x3, x4, x5, x6⟩ := HC1.out _ (Below.refl _ _)
          obtain ⟨y0, y1, y2, y3, y4, y5, y6⟩ := HC2.out _ (Below.refl _ _)
          clear hq hq6 ht CPT E2 E3 HV5 F4 G2 G3 HF1 HF2
          go_wp2_with fail
          clear hV6 x0 x1 x2 x3 x4 x5 x6 y0 y1 y2 y3 y4 y5 y6
          go_loopw [17, 94] (fun sv iv wr => ∃ (kv : Value) (k : Nat), kv = sv ∧ iv = .int .i64 (k : Int) ∧ k ≤ 2 ∧ LKs wr V6.heap.size kv (flK X Y k) ∧ Below V6.heap.size V6 wr) (fun _ iv _ => 2 - (RowKit.intOf iv).toNat)
          case atStart => exact ⟨_, 0, rfl, rfl, by omega, LKs.nil _ _, Below.refl _ _⟩
          case round =>
            obtain ⟨kv, k, rfl, rfl, hk, hL, hB⟩ := hrel
            have hk3 : k = 0 ∨ k = 1 ∨ k = 2 := by omega
            rcases hk3 with rfl | rfl | rfl
            ·
              have hix : ∀ w, (Instr.index 35 (.agg #[.int .i64 k1, .int .i64 c1, .bool n1, .slice A31 m31 c31, .int .i64 lo1, .int .i64 hi1, .slice A1 m1 cp1, .int .i64 k2, .int .i64 c2, .bool n2, .slice A32 m32 c32, .int .i64 lo2, .int .i64 hi2, .slice A2 m2 cp2]) (.int .i64 0)).run Tryd.prog w = .ok (.agg #[.int .i64 k1, .int .i64 c1, .bool n1, .slice A31 m31 c31, .int .i64 lo1, .int .i64 hi1, .slice A1 m1 cp1]) w := fun _ => rfl
              have hTr := HA1.out wr hB
              have hbn := hB.size
              have FU := Blk.new wr #[.int .i64 k1, .int .i64 c1, .bool n1, .slice A31 m31 c31, .int .i64 lo1, .int .i64 hi1, .slice A1 m1 cp1] 30
              obtain ⟨U, hU⟩ : ∃ V, wr.alloc (.cells #[.int .i64 k1, .int .i64 c1, .bool n1, .slice A31 m31 c31, .int .i64 lo1, .int .i64 hi1, .slice A1 m1 cp1] 30) = V := ⟨_, rfl⟩
              have hUb : ∀ g, g < wr.heap.size → U.heap[g]? = wr.heap[g]? := fun g hg => hU ▸ Below.heap_alloc wr _ g hg
              have hUs : wr.heap.size + 1 ≤ U.heap.size ∧ U.heap.size ≤ wr.heap.size + 1 := by rw [← hU]; simp
              have hBU : Below V6.heap.size V6 U := hU ▸ hB.alloc hB.size _
              rw [hU] at FU
              obtain ⟨⟨u0, u1, u2, u3, u4, u5, u6⟩, _⟩ := FU.seven
              obtain ⟨KS, hKS⟩ : ∃ l, flK X Y 0 = l := ⟨_, rfl⟩
              rw [hKS] at hL
              obtain ⟨xs, ho, hx⟩ := hL
              have NEXT := Lib.hid (show flK X Y 1 = KS ++ flatT X from by rw [← hKS]; rfl)
              have hKL : KS.length ≤ 100000 := by
                rw [← hKS]
                show ([] : List Tr).length ≤ 100000
                simp
              obtain ⟨kl, hkl⟩ : ∃ l, KS.length = l := ⟨_, rfl⟩
              rw [hkl] at ho hKL
              have HKL := Lib.hid hkl
              have hxl := ho.1
              by_cases hfl : k1 = 6 ∧ kids1 ≠ []
              ·
                have hF := FX.out
                rw [if_pos hfl] at hF
                have HFl := Lib.hid hF
                obtain ⟨h6, hne⟩ := hfl
                have hpos : 0 < m1 := by rw [← HM1.out]; exact List.length_pos_iff.2 hne
                obtain ⟨g, ys, hA, hg, hyl, hyc, hy1, hyt⟩ := ins_vals (IX.out _ _ _ _ _ _ _ hTr) hne
                have hgw : g < V6.heap.size := by have hg : g < V2.heap.size := hg; omega
                have hyc2 : ∀ j u, ys[j]? = some u → U.cell? ((⟨g, 0, none⟩ : Addr).add j) = some u := fun j u h => by
                  have h2 := hyc j u h
                  rw [Addr.add_lit] at h2 ⊢
                  exact (World.cell?_of_block (a := ⟨g, 0 + j, none⟩) (hUb g (by omega))).trans h2
                have hyt2 : ∀ (j : Nat) (t : Tr), kids1[j]? = some t → t.In wr (fun g => g < V6.heap.size) (rdL ys (j * 7)) := fun j t h => (hyt j t h).kept (fun g _ hp => ⟨by have hp : g < V2.heap.size := hp; omega, rfl⟩)
                rw [HM1.out] at hyl
                subst hA h6
                have hgt : decide (0 < (m1 : Int)) = true := decide_eq_true (by omega)
                have HOU := Lib.hid (show U.ownsRow V6.heap.size 30 7 kv kl xs from hU ▸ ho.alloc _)
                have HYS := Lib.hid (And.intro hyl (And.intro hyc2 hy1))
                have DONE := Lib.hid (fun (v' : Value) (w' : World) (h2 : w'.ownsRow V6.heap.size 30 7 v' (kl + m1) (xs ++ ys)) (hgr : U.grownBy w' kv.ownBlock) => show LKs w' V6.heap.size v' (flK X Y 1) ∧ Below V6.heap.size V6 w' from ⟨by
                  rw [NEXT.out, HFl.out]
                  exact LKs.app (by rw [hxl, HKL.out]) hx (by rw [hyl, HM1.out]) hyt2 (gath_hk ho hUb (by omega) hbn hgr) (by rw [HKL.out, HM1.out]; exact h2), hBU.grown hgr (by omega) (fun r e => (ho.lt r e).1)⟩)
                clear hyc hyt hyt2 hyc2 hy1 hx hTr hB hBU hkl hKS hF hne hUb FU ho hyl
                go_wp2_with (at_builtin; refine wpList_append_own_at _ rfl _ _ 28 rfl V6.heap.size 30 r0 _ 7 88 Tryd.underlying28 HR.out.1 HR.out.2.1 HR.out.2.2.1 HR.out.2.2.2 rfl (by decide) _ kl xs rfl HOU.out ⟨g, 0, none⟩ m1 cp1 ys rfl HYS.out.1 HYS.out.2.1 HYS.out.2.2 (by unfold maxLen; omega) (by omega) (by omega) ?_)
                rintro v2 w7 ho2 hgr _ _
                obtain ⟨D1, D2⟩ := DONE.out _ _ ho2 hgr
                have HD1 := Lib.hid D1
                have HD2 := Lib.hid D2
                clear hU D1 D2 ho2 hgr u0 u1 u2 u3 u4 u5 u6 DONE HOU HYS
                go_wp2_with fail
                refine ⟨?_, by simp [RowKit.intOf]⟩
                iterate 23 apply Exists.intro
                exact ⟨⟨v2, 1, rfl, rfl, by omega, HD1.out, HD2.out⟩, rfl⟩
              ·
                have hF := FX.out
                rw [if_neg hfl] at hF
                have HFl := Lib.hid hF
                have hone : ∀ (j : Nat) (t : Tr), [X][j]? = some t → t.In wr (fun g => g < V6.heap.size) (rdL [.int .i64 k1, .int .i64 c1, .bool n1, .slice A31 m31 c31, .int .i64 lo1, .int .i64 hi1, .slice A1 m1 cp1] (j * 7)) := fun j t h => by
                  cases j with
                  | zero =>
                    obtain rfl : X = t := by simpa using h
                    refine (hTr.2.kept (P' := fun g => g < V6.heap.size) (fun g _ hp => ⟨by have hp : g < V2.heap.size := hp; omega, rfl⟩)).congr fun i hi => ?_
                    rw [rdL, Nat.zero_mul, Nat.zero_add]
                    simp
                  | succ j => simp at h
                have HOU := Lib.hid (show U.ownsRow V6.heap.size 30 7 kv kl xs from hU ▸ ho.alloc _)
                have DONE := Lib.hid (fun (v' : Value) (w' : World) (h2 : w'.ownsRow V6.heap.size 30 7 v' (kl + 1) (xs ++ [.int .i64 k1, .int .i64 c1, .bool n1, .slice A31 m31 c31, .int .i64 lo1, .int .i64 hi1, .slice A1 m1 cp1])) (hgr : (U.alloc (.cells #[.int .i64 k1, .int .i64 c1, .bool n1, .slice A31 m31 c31, .int .i64 lo1, .int .i64 hi1, .slice A1 m1 cp1] 30)).grownBy w' kv.ownBlock) => show LKs w' V6.heap.size v' (flK X Y 1) ∧ Below V6.heap.size V6 w' from ⟨by
                  rw [NEXT.out, HFl.out]
                  exact LKs.app (by rw [hxl, HKL.out]) hx (by rfl) hone (gath_hk ho (fun g hg => (Below.heap_alloc U _ g (by omega)).trans (hUb g hg)) (by rw [World.size_alloc]; omega) hbn hgr) (by rw [HKL.out]; exact h2), (hBU.alloc hBU.size _).grown hgr (by rw [World.size_alloc]; omega) (fun r e => (ho.lt r e).1)⟩)
                have RN := Lib.hid (show ∀ jj u, [.int .i64 k1, .int .i64 c1, .bool n1, .slice A31 m31 c31, .int .i64 lo1, .int .i64 hi1, .slice A1 m1 cp1][jj]? = some u → (U.alloc (.cells #[.int .i64 k1, .int .i64 c1, .bool n1, .slice A31 m31 c31, .int .i64 lo1, .int .i64 hi1, .slice A1 m1 cp1] 30)).cell? ((⟨U.heap.size, 0, none⟩ : Addr).add jj) = some u from rx_row_new U #[.int .i64 k1, .int .i64 c1, .bool n1, .slice A31 m31 c31, .int .i64 lo1, .int .i64 hi1, .slice A1 m1 cp1] 30)
                have h6d : (k1 == 6) = false := beq_eq_false_iff_ne.2 fun h6 => hfl ⟨h6, AX.out h6⟩
                clear hx hTr hB hBU hkl hKS hF hUb FU ho hone hfl
                go_wp2_with (at_builtin; refine wpList_append_own_at _ rfl _ _ 28 rfl V6.heap.size 30 r0 _ 7 88 Tryd.underlying28 HR.out.1 HR.out.2.1 HR.out.2.2.1 HR.out.2.2.2 rfl (by decide) _ kl xs rfl (HOU.out.alloc _) ⟨U.heap.size, 0, none⟩ 1 1 [.int .i64 k1, .int .i64 c1, .bool n1, .slice A31 m31 c31, .int .i64 lo1, .int .i64 hi1, .slice A1 m1 cp1] rfl rfl RN.out (by simp [Value.oneCell']) (by unfold maxLen; omega) (by omega) (by rw [World.size_alloc]; omega) ?_)
                rintro v2 w7 ho2 hgr _ _
                obtain ⟨D1, D2⟩ := DONE.out _ _ ho2 hgr
                have HD1 := Lib.hid D1
                have HD2 := Lib.hid D2
                clear hU D1 D2 ho2 hgr u0 u1 u2 u3 u4 u5 u6 DONE HOU RN
                go_wp2_with fail
                refine ⟨?_, by simp [RowKit.intOf]⟩
                iterate 23 apply Exists.intro
                exact ⟨⟨v2, 1, rfl, rfl, by omega, HD1.out, HD2.out⟩, rfl⟩
            ·
              have hix : ∀ w, (Instr.index 35 (.agg #[.int .i64 k1, .int .i64 c1, .bool n1, .slice A31 m31 c31, .int .i64 lo1, .int .i64 hi1, .slice A1 m1 cp1, .int .i64 k2, .int .i64 c2, .bool n2, .slice A32 m32 c32, .int .i64 lo2, .int .i64 hi2, .slice A2 m2 cp2]) (.int .i64 1)).run Tryd.prog w = .ok (.agg #[.int .i64 k2, .int .i64 c2, .bool n2, .slice A32 m32 c32, .int .i64 lo2, .int .i64 hi2, .slice A2 m2 cp2]) w := fun _ => rfl
              have hTr := HA2.out wr hB
              have hbn := hB.size
              have FU := Blk.new wr #[.int .i64 k2, .int .i64 c2, .bool n2, .slice A32 m32 c32, .int .i64 lo2, .int .i64 hi2, .slice A2 m2 cp2] 30
              obtain ⟨U, hU⟩ : ∃ V, wr.alloc (.cells #[.int .i64 k2, .int .i64 c2, .bool n2, .slice A32 m32 c32, .int .i64 lo2, .int .i64 hi2, .slice A2 m2 cp2] 30) = V := ⟨_, rfl⟩
              have hUb : ∀ g, g < wr.heap.size → U.heap[g]? = wr.heap[g]? := fun g hg => hU ▸ Below.heap_alloc wr _ g hg
              have hUs : wr.heap.size + 1 ≤ U.heap.size ∧ U.heap.size ≤ wr.heap.size + 1 := by rw [← hU]; simp
              have hBU : Below V6.heap.size V6 U := hU ▸ hB.alloc hB.size _
              rw [hU] at FU
              obtain ⟨⟨u0, u1, u2, u3, u4, u5, u6⟩, _⟩ := FU.seven
              obtain ⟨KS, hKS⟩ : ∃ l, flK X Y 1 = l := ⟨_, rfl⟩
              rw [hKS] at hL
              obtain ⟨xs, ho, hx⟩ := hL
              have NEXT := Lib.hid (show flK X Y 2 = KS ++ flatT Y from by rw [← hKS]; rfl)
              have hKL : KS.length ≤ 100000 := by
                rw [← hKS]
                show (flatT X).length ≤ 100000
                rw [FX.out]
                have := HM1.out
                split
                · omega
                · simp
              obtain ⟨kl, hkl⟩ : ∃ l, KS.length = l := ⟨_, rfl⟩
              rw [hkl] at ho hKL
              have HKL := Lib.hid hkl
              have hxl := ho.1
              by_cases hfl : k2 = 6 ∧ kids2 ≠ []
              ·
                have hF := FY.out
                rw [if_pos hfl] at hF
                have HFl := Lib.hid hF
                obtain ⟨h6, hne⟩ := hfl
                have hpos : 0 < m2 := by rw [← HM2.out]; exact List.length_pos_iff.2 hne
                obtain ⟨g, ys, hA, hg, hyl, hyc, hy1, hyt⟩ := ins_vals (IY.out _ _ _ _ _ _ _ hTr) hne
                have hgw : g < V6.heap.size := by have hg : g < V3.heap.size := hg; omega
                have hyc2 : ∀ j u, ys[j]? = some u → U.cell? ((⟨g, 0, none⟩ : Addr).add j) = some u := fun j u h => by
                  have h2 := hyc j u h
                  rw [Addr.add_lit] at h2 ⊢
                  exact (World.cell?_of_block (a := ⟨g, 0 + j, none⟩) (hUb g (by omega))).trans h2
                have hyt2 : ∀ (j : Nat) (t : Tr), kids2[j]? = some t → t.In wr (fun g => g < V6.heap.size) (rdL ys (j * 7)) := fun j t h => (hyt j t h).kept (fun g _ hp => ⟨by have hp : g < V3.heap.size := hp; omega, rfl⟩)
                rw [HM2.out] at hyl
                subst hA h6
                have hgt : decide (0 < (m2 : Int)) = true := decide_eq_true (by omega)
                have HOU := Lib.hid (show U.ownsRow V6.heap.size 30 7 kv kl xs from hU ▸ ho.alloc _)
                have HYS := Lib.hid (And.intro hyl (And.intro hyc2 hy1))
                have DONE := Lib.hid (fun (v' : Value) (w' : World) (h2 : w'.ownsRow V6.heap.size 30 7 v' (kl + m2) (xs ++ ys)) (hgr : U.grownBy w' kv.ownBlock) => show LKs w' V6.heap.size v' (flK X Y 2) ∧ Below V6.heap.size V6 w' from ⟨by
                  rw [NEXT.out, HFl.out]
                  exact LKs.app (by rw [hxl, HKL.out]) hx (by rw [hyl, HM2.out]) hyt2 (gath_hk ho hUb (by omega) hbn hgr) (by rw [HKL.out, HM2.out]; exact h2), hBU.grown hgr (by omega) (fun r e => (ho.lt r e).1)⟩)
                clear hyc hyt hyt2 hyc2 hy1 hx hTr hB hBU hkl hKS hF hne hUb FU ho hyl
                go_wp2_with (at_builtin; refine wpList_append_own_at _ rfl _ _ 28 rfl V6.heap.size 30 r0 _ 7 88 Tryd.underlying28 HR.out.1 HR.out.2.1 HR.out.2.2.1 HR.out.2.2.2 rfl (by decide) _ kl xs rfl HOU.out ⟨g, 0, none⟩ m2 cp2 ys rfl HYS.out.1 HYS.out.2.1 HYS.out.2.2 (by unfold maxLen; omega) (by omega) (by omega) ?_)
                rintro v2 w7 ho2 hgr _ _
                obtain ⟨D1, D2⟩ := DONE.out _ _ ho2 hgr
                have HD1 := Lib.hid D1
                have HD2 := Lib.hid D2
                clear hU D1 D2 ho2 hgr u0 u1 u2 u3 u4 u5 u6 DONE HOU HYS
                go_wp2_with fail
                refine ⟨?_, by simp [RowKit.intOf]⟩
                iterate 23 apply Exists.intro
                exact ⟨⟨v2, 2, rfl, rfl, by omega, HD1.out, HD2.out⟩, rfl⟩
              ·
                have hF := FY.out
                rw [if_neg hfl] at hF
                have HFl := Lib.hid hF
                have hone : ∀ (j : Nat) (t : Tr), [Y][j]? = some t → t.In wr (fun g => g < V6.heap.size) (rdL [.int .i64 k2, .int .i64 c2, .bool n2, .slice A32 m32 c32, .int .i64 lo2, .int .i64 hi2, .slice A2 m2 cp2] (j * 7)) := fun j t h => by
                  cases j with
                  | zero =>
                    obtain rfl : Y = t := by simpa using h
                    refine (hTr.2.kept (P' := fun g => g < V6.heap.size) (fun g _ hp => ⟨by have hp : g < V3.heap.size := hp; omega, rfl⟩)).congr fun i hi => ?_
                    rw [rdL, Nat.zero_mul, Nat.zero_add]
                    simp
                  | succ j => simp at h
                have HOU := Lib.hid (show U.ownsRow V6.heap.size 30 7 kv kl xs from hU ▸ ho.alloc _)
                have DONE := Lib.hid (fun (v' : Value) (w' : World) (h2 : w'.ownsRow V6.heap.size 30 7 v' (kl + 1) (xs ++ [.int .i64 k2, .int .i64 c2, .bool n2, .slice A32 m32 c32, .int .i64 lo2, .int .i64 hi2, .slice A2 m2 cp2])) (hgr : (U.alloc (.cells #[.int .i64 k2, .int .i64 c2, .bool n2, .slice A32 m32 c32, .int .i64 lo2, .int .i64 hi2, .slice A2 m2 cp2] 30)).grownBy w' kv.ownBlock) => show LKs w' V6.heap.size v' (flK X Y 2) ∧ Below V6.heap.size V6 w' from ⟨by
                  rw [NEXT.out, HFl.out]
                  exact LKs.app (by rw [hxl, HKL.out]) hx (by rfl) hone (gath_hk ho (fun g hg => (Below.heap_alloc U _ g (by omega)).trans (hUb g hg)) (by rw [World.size_alloc]; omega) hbn hgr) (by rw [HKL.out]; exact h2), (hBU.alloc hBU.size _).grown hgr (by rw [World.size_alloc]; omega) (fun r e => (ho.lt r e).1)⟩)
                have RN := Lib.hid (show ∀ jj u, [.int .i64 k2, .int .i64 c2, .bool n2, .slice A32 m32 c32, .int .i64 lo2, .int .i64 hi2, .slice A2 m2 cp2][jj]? = some u → (U.alloc (.cells #[.int .i64 k2, .int .i64 c2, .bool n2, .slice A32 m32 c32, .int .i64 lo2, .int .i64 hi2, .slice A2 m2 cp2] 30)).cell? ((⟨U.heap.size, 0, none⟩ : Addr).add jj) = some u from rx_row_new U #[.int .i64 k2, .int .i64 c2, .bool n2, .slice A32 m32 c32, .int .i64 lo2, .int .i64 hi2, .slice A2 m2 cp2] 30)
                have h6d : (k2 == 6) = false := beq_eq_false_iff_ne.2 fun h6 => hfl ⟨h6, AY.out h6⟩
                clear hx hTr hB hBU hkl hKS hF hUb FU ho hone hfl
                go_wp2_with (at_builtin; refine wpList_append_own_at _ rfl _ _ 28 rfl V6.heap.size 30 r0 _ 7 88 Tryd.underlying28 HR.out.1 HR.out.2.1 HR.out.2.2.1 HR.out.2.2.2 rfl (by decide) _ kl xs rfl (HOU.out.alloc _) ⟨U.heap.size, 0, none⟩ 1 1 [.int .i64 k2, .int .i64 c2, .bool n2, .slice A32 m32 c32, .int .i64 lo2, .int .i64 hi2, .slice A2 m2 cp2] rfl rfl RN.out (by simp [Value.oneCell']) (by unfold maxLen; omega) (by omega) (by rw [World.size_alloc]; omega) ?_)
                rintro v2 w7 ho2 hgr _ _
                obtain ⟨D1, D2⟩ := DONE.out _ _ ho2 hgr
                have HD1 := Lib.hid D1
                have HD2 := Lib.hid D2
                clear hU D1 D2 ho2 hgr u0 u1 u2 u3 u4 u5 u6 DONE HOU RN
                go_wp2_with fail
                refine ⟨?_, by simp [RowKit.intOf]⟩
                iterate 23 apply Exists.intro
                exact ⟨⟨v2, 2, rfl, rfl, by omega, HD1.out, HD2.out⟩, rfl⟩
            ·
              have hL : LKs wr V6.heap.size kv (flatT X ++ flatT Y) := hL
              obtain ⟨A, cp, rfl⟩ := hL.slice
              have hI := hL.ins
              have hkl : (flatT X ++ flatT Y).length ≤ 300000 := by
                rw [List.length_append, FX.out, FY.out]
                have h1 := HM1.out
                have h2 := HM2.out
                have : ((if k1 = 6 ∧ kids1 ≠ [] then kids1 else [X]) : List Tr).length ≤ 100000 := by
                  split
                  · omega
                  · simp
                have : ((if k2 = 6 ∧ kids2 ≠ [] then kids2 else [Y]) : List Tr).length ≤ 100000 := by
                  split
                  · omega
                  · simp
                omega
              have HZ := Lib.hid (HT4.out wr hB)
              have FB := Lib.hid (HV6.out.trans (hB.mono HV6.out.size))
              obtain ⟨⟨x0, x1, x2, x3, x4, x5, x6⟩, _⟩ := (HF4.out.below hB HF4.out.lt).seven
              have HKF := Lib.hid (fun (w : World) (hb : Below wr.heap.size wr w) => ((HF4.out.below hB HF4.out.lt).below hb (Nat.lt_of_lt_of_le HF4.out.lt hB.size)).seven.1)
              rcases FL.out with hfl | hfl
              ·
                rw [hfl] at hL hI hkl ⊢
                rw [HN.out] at hkl ⊢
                have CS := Lib.hid (rx_same HZ.out (show TrV wr (fun _ => True) (trN 6 (us ++ bs)) #[.int .i64 6, .int .i64 0, .bool false, .slice none 0 0, .int .i64 0, .int .i64 0, .slice A n cp] from HN.out ▸ TrV.mk (by rw [HN.out]; omega) (RgIn.nil _ _ none 0) hI))
                clear hL hI hB hk hfl HKF
                go_wp2_with fail
                refine CS.out.mono ?_
                rintro e w8 ⟨rfl, hq⟩
                have HBf := Lib.hid (FB.out.trans (hq.mono FB.out.size))
                clear hq CS x0 x1 x2 x3 x4 x5 x6
                go_wp2_with fail
                go_ret
                exact ⟨rfl, HBf.out⟩
              ·
                obtain ⟨kl, hkl2⟩ : ∃ l, (flatT X ++ flatT Y).length = l := ⟨_, rfl⟩
                rw [hkl2] at hkl hfl ⊢
                rw [HN.out] at hfl
                have hlt : decide ((n : Int) < (kl : Int)) = true := decide_eq_true (by omega)
                have CS := Lib.hid (rx_same_no2 (W := wr) (A := A4) (B := A) (C := A34) (c3 := c34) (n := n) (m := kl) (cap := cp4) (bap := cp) (by omega) (by omega) (by omega))
                clear hL hI hB hk hkl2
                go_wp2_with fail
                refine CS.out.mono ?_
                rintro e w8 ⟨rfl, hq⟩
                have HBf := Lib.hid (FB.out.trans (hq.mono FB.out.size))
                clear x0 x1 x2 x3 x4 x5 x6
                obtain ⟨x0, x1, x2, x3, x4, x5, x6⟩ := HKF.out _ hq
                clear hq CS HKF
                go_wp2_with fail
                go_ret
                exact ⟨rfl, HBf.out⟩
        ·
          refine (CPT.out _ ht _ HV5.out).mono ?_
          clear ht
          rintro e w6 ⟨vs, rfl, ht, hq⟩
          obtain ⟨k4, c4, n4, A34, m34, c34, lo4, hi4, A4, m4, cp4, rfl⟩ := ht.form
          have F4 := Blk.new w6 #[.int .i64 k4, .int .i64 c4, .bool n4, .slice A34 m34 c34, .int .i64 lo4, .int .i64 hi4, .slice A4 m4 cp4] 30
          obtain ⟨V6, hV6⟩ : ∃ V, w6.alloc (.cells #[.int .i64 k4, .int .i64 c4, .bool n4, .slice A34 m34 c34, .int .i64 lo4, .int .i64 hi4, .slice A4 m4 cp4] 30) = V := ⟨_, rfl⟩
          rw [hV6] at F4
          have HT4 := Lib.hid (tr_keep ht hV6)
          have hq6 : Below _ _ V6 := hV6 ▸ hq.alloc hq.size _
          have HV6 := Lib.hid (HV5.out.trans (hq6.mono HV5.out.size))
          have G2 := Lib.hid (E2.out.trans (hq6.mono E2.out.size))
          have G3 := Lib.hid (E3.out.trans (hq6.mono E3.out.size))
          have HF4 := Lib.hid F4
          have HC1 := Lib.hid (fun w (hb : Below V6.heap.size V6 w) => (HF1.out.below (G2.out.trans (hb.mono G2.out.size)) HF1.out.lt).seven.1)
          have HC2 := Lib.hid (fun w (hb : Below V6.heap.size V6 w) => (HF2.out.below (G3.out.trans (hb.mono G3.out.size)) HF2.out.lt).seven.1)
          have HA1 := Lib.hid (fun w (hb : Below V6.heap.size V6 w) => HT1.out w (G2.out.trans (hb.mono G2.out.size)))
          have HA2 := Lib.hid (fun w (hb : Below V6.heap.size V6 w) => HT2.out w (G3.out.trans (hb.mono G3.out.size)))
          have h23 := G2.out.size
          have h33 := G3.out.size
          obtain ⟨x0, x1, x2, x3, x4, x5, x6⟩ := HC1.out _ (Below.refl _ _)
          obtain ⟨y0, y1, y2, y3, y4, y5, y6⟩ := HC2.out _ (Below.refl _ _)
          clear hq hq6 ht CPT E2 E3 HV5 F4 G2 G3 HF1 HF2
          have hge : decide (200 ≤ wx + wy) = true := decide_eq_true (by omega)
          have KP := Lib.hid (fun (w : World) (hb : Below V6.heap.size V6 w) => show (w.cell? ⟨w2.heap.size, 0, none⟩ = some (.int .i64 k1) ∧ w.cell? ⟨w2.heap.size, 1, none⟩ = some (.int .i64 c1) ∧ w.cell? ⟨w2.heap.size, 2, none⟩ = some (.bool n1) ∧ w.cell? ⟨w2.heap.size, 3, none⟩ = some (.slice A31 m31 c31) ∧ w.cell? ⟨w2.heap.size, 4, none⟩ = some (.int .i64 lo1) ∧ w.cell? ⟨w2.heap.size, 5, none⟩ = some (.int .i64 hi1) ∧ w.cell? ⟨w2.heap.size, 6, none⟩ = some (.slice A1 m1 cp1)) ∧ (w.cell? ⟨w3.heap.size, 0, none⟩ = some (.int .i64 k2) ∧ w.cell? ⟨w3.heap.size, 1, none⟩ = some (.int .i64 c2) ∧ w.cell? ⟨w3.heap.size, 2, none⟩ = some (.bool n2) ∧ w.cell? ⟨w3.heap.size, 3, none⟩ = some (.slice A32 m32 c32) ∧ w.cell? ⟨w3.heap.size, 4, none⟩ = some (.int .i64 lo2) ∧ w.cell? ⟨w3.heap.size, 5, none⟩ = some (.int .i64 hi2) ∧ w.cell? ⟨w3.heap.size, 6, none⟩ = some (.slice A2 m2 cp2)) from ⟨HC1.out w hb, HC2.out w hb⟩)
          have hR0 := Below.refl V6.heap.size V6
          clear HF4 HT4 hwt
          go_wp2_with fail
          clear hV6
          go_region_held3 (fun w' => (w'.cell? ⟨w2.heap.size, 0, none⟩ = some (.int .i64 k1) ∧ w'.cell? ⟨w2.heap.size, 1, none⟩ = some (.int .i64 c1) ∧ w'.cell? ⟨w2.heap.size, 2, none⟩ = some (.bool n1) ∧ w'.cell? ⟨w2.heap.size, 3, none⟩ = some (.slice A31 m31 c31) ∧ w'.cell? ⟨w2.heap.size, 4, none⟩ = some (.int .i64 lo1) ∧ w'.cell? ⟨w2.heap.size, 5, none⟩ = some (.int .i64 hi1) ∧ w'.cell? ⟨w2.heap.size, 6, none⟩ = some (.slice A1 m1 cp1)) ∧ (w'.cell? ⟨w3.heap.size, 0, none⟩ = some (.int .i64 k2) ∧ w'.cell? ⟨w3.heap.size, 1, none⟩ = some (.int .i64 c2) ∧ w'.cell? ⟨w3.heap.size, 2, none⟩ = some (.bool n2) ∧ w'.cell? ⟨w3.heap.size, 3, none⟩ = some (.slice A32 m32 c32) ∧ w'.cell? ⟨w3.heap.size, 4, none⟩ = some (.int .i64 lo2) ∧ w'.cell? ⟨w3.heap.size, 5, none⟩ = some (.int .i64 hi2) ∧ w'.cell? ⟨w3.heap.size, 6, none⟩ = some (.slice A2 m2 cp2)))
            (first | (with_reducible exact S8) | (with_reducible exact S7) | go_keep)
            (first
            | (go_at_call 10; (with_reducible refine (WX.out _ _ _ (HA1.out _ (by first | exact hR0 | exact hR0.drew | exact below_drewN hR0 _))).mono ?_); rintro e X7 ⟨rfl, h⟩; have b7 : Below V6.heap.size V6 X7 := ⟨h.os, h.tape, h.output, h.size, h.block⟩; have S7 := KP.out _ b7; clear h)
            | (go_at_call 10; (with_reducible refine (WY.out _ _ _ (HA2.out _ (by first | exact b7 | exact b7.drew | exact below_drewN b7 _))).mono ?_); rintro e X8 ⟨rfl, h⟩; have b8 : Below V6.heap.size V6 X8 := b7.trans ((⟨h.os, h.tape, h.output, h.size, h.block⟩ : Below X7.heap.size X7 X8).mono b7.size); have S8 := KP.out _ b8; clear h))
          all_goals
            have HBf := Lib.hid (HV6.out.trans (b8.mono HV6.out.size))
            clear b7 b8 S7 S8 x0 x1 x2 x3 x4 x5 x6 y0 y1 y2 y3 y4 y5 y6
            go_wp2_with fail
            go_ret
            exact ⟨rfl, HBf.out⟩
    ·
      have be : (f != 0) = true := bne_iff_ne.2 hf
      clear hR1 hR2 z1 z2 hf HE
      go_enter Tryd.func4, Tryd.ntmps4
      go_wp2_with fail
      refine CF.out.mono ?_
      rintro e w1 ⟨rfl, hb⟩
      have HB := Lib.hid hb
      clear hb CF
      go_wp2_with fail
      refine (CP1.out _ HB.out).mono ?_
      rintro e w2 ⟨vs, rfl, ht, hq⟩
      obtain ⟨k1, c1, n1, A31, m31, c31, lo1, hi1, A1, m1, cp1, rfl⟩ := ht.form
      have HW2 := Lib.hid (HB.out.trans (hq.mono HB.out.size))
      clear hq HB CP1
      have F1 := Blk.new w2 #[.int .i64 k1, .int .i64 c1, .bool n1, .slice A31 m31 c31, .int .i64 lo1, .int .i64 hi1, .slice A1 m1 cp1] 30
      obtain ⟨V2, hV2⟩ : ∃ V, w2.alloc (.cells #[.int .i64 k1, .int .i64 c1, .bool n1, .slice A31 m31 c31, .int .i64 lo1, .int .i64 hi1, .slice A1 m1 cp1] 30) = V := ⟨_, rfl⟩
      rw [hV2] at F1
      have HT1 := Lib.hid (tr_keep ht hV2)
      have HV2 := Lib.hid (show Below W.heap.size W V2 from hV2 ▸ HW2.out.alloc HW2.out.size _)
      have HF1 := Lib.hid F1
      clear ht F1
      go_wp2_with fail
      clear hV2
      refine (CP2.out _ HV2.out).mono ?_
      rintro e w3 ⟨vs, rfl, ht, hq⟩
      obtain ⟨k2, c2, n2, A32, m32, c32, lo2, hi2, A2, m2, cp2, rfl⟩ := ht.form
      have HW3 := Lib.hid (HV2.out.trans (hq.mono HV2.out.size))
      have B3 := hq
      clear CP2
      have F2 := Blk.new w3 #[.int .i64 k2, .int .i64 c2, .bool n2, .slice A32 m32 c32, .int .i64 lo2, .int .i64 hi2, .slice A2 m2 cp2] 30
      obtain ⟨V3, hV3⟩ : ∃ V, w3.alloc (.cells #[.int .i64 k2, .int .i64 c2, .bool n2, .slice A32 m32 c32, .int .i64 lo2, .int .i64 hi2, .slice A2 m2 cp2] 30) = V := ⟨_, rfl⟩
      rw [hV3] at F2
      have HT2 := Lib.hid (tr_keep ht hV3)
      have HV3 := Lib.hid (show Below W.heap.size W V3 from hV3 ▸ HW3.out.alloc HW3.out.size _)
      have HF2 := Lib.hid F2
      clear ht F2
      clear B3 hq
      go_wp2_with fail
      go_ret
      exact ⟨rfl, HV3.out⟩
  ·
    have be : (e != 0) = true := bne_iff_ne.2 he
    clear hR1 hR2 z1 z2 he HE
    go_enter Tryd.func4, Tryd.ntmps4
    go_wp2_with fail
    refine CF.out.mono ?_
    rintro e w1 ⟨rfl, hb⟩
    have HB := Lib.hid hb
    clear hb CF
    go_wp2_with fail
    refine (CP1.out _ HB.out).mono ?_
    rintro e w2 ⟨vs, rfl, ht, hq⟩
    obtain ⟨k1, c1, n1, A31, m31, c31, lo1, hi1, A1, m1, cp1, rfl⟩ := ht.form
    have HW2 := Lib.hid (HB.out.trans (hq.mono HB.out.size))
    clear hq HB CP1
    have F1 := Blk.new w2 #[.int .i64 k1, .int .i64 c1, .bool n1, .slice A31 m31 c31, .int .i64 lo1, .int .i64 hi1, .slice A1 m1 cp1] 30
    obtain ⟨V2, hV2⟩ : ∃ V, w2.alloc (.cells #[.int .i64 k1, .int .i64 c1, .bool n1, .slice A31 m31 c31, .int .i64 lo1, .int .i64 hi1, .slice A1 m1 cp1] 30) = V := ⟨_, rfl⟩
    rw [hV2] at F1
    have HT1 := Lib.hid (tr_keep ht hV2)
    have HV2 := Lib.hid (show Below W.heap.size W V2 from hV2 ▸ HW2.out.alloc HW2.out.size _)
    have HF1 := Lib.hid F1
    clear ht F1
    go_wp2_with fail
    clear hV2
    refine (CP2.out _ HV2.out).mono ?_
    rintro e w3 ⟨vs, rfl, ht, hq⟩
    obtain ⟨k2, c2, n2, A32, m32, c32, lo2, hi2, A2, m2, cp2, rfl⟩ := ht.form
    have HW3 := Lib.hid (HV2.out.trans (hq.mono HV2.out.size))
    have B3 := hq
    clear CP2
    have F2 := Blk.new w3 #[.int .i64 k2, .int .i64 c2, .bool n2, .slice A32 m32 c32, .int .i64 lo2, .int .i64 hi2, .slice A2 m2 cp2] 30
    obtain ⟨V3, hV3⟩ : ∃ V, w3.alloc (.cells #[.int .i64 k2, .int .i64 c2, .bool n2, .slice A32 m32 c32, .int .i64 lo2, .int .i64 hi2, .slice A2 m2 cp2] 30) = V := ⟨_, rfl⟩
    rw [hV3] at F2
    have HT2 := Lib.hid (tr_keep ht hV3)
    have HV3 := Lib.hid (show Below W.heap.size W V3 from hV3 ▸ HW3.out.alloc HW3.out.size _)
    have HF2 := Lib.hid F2
    clear ht F2
    clear B3 hq
    go_wp2_with fail
    go_ret
    exact ⟨rfl, HV3.out⟩
end Go.Proofs.YtmfcofiihopbfaaDoor

namespace Go.Proofs.YtmfcofiihopbfaaDoor
open Go.RowKit Go.Lib

theorem rx_env {W : World} (hT : Utf8Tabs 0 1 W) (hsh : W.ShapedOpen Tryd.prog) : REnv W :=
  ⟨hT, cell_of_shapedOpen_int (g := 2) (t := 3) (zero := #[.int .i64 0]) hsh (of_decide_eq_true (by kernel_rfl)) (by kernel_rfl) rfl (by kernel_rfl) (by kernel_rfl) (by kernel_rfl)⟩
end Go.Proofs.YtmfcofiihopbfaaDoor
