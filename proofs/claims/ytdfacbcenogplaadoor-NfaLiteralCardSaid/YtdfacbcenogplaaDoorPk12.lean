/- Several texts in one (Contracts of layer 10: 'own', any other node; Contracts of layer 10: 'own'; Contracts of layer 10's law: the example; Plain: two right patterns in brackets with a stroke between (layer 10); What the rows of layer 9 give: the library's tables and a number of its own; The walk of the law NfaChoice). -/
import Derived.Shelf.Vars
import Derived.Test.YtdfacbcenogplaaDoorPk2
import Derived.Test.YtdfacbcenogplaaDoorPk6
import Derived.Test.YtdfacbcenogplaaDoorPk9
import Derived.Test.YtdfacbcenogplaaDoorPk10
import Derived.Test.YtdfacbcenogplaaDoorPk11
namespace Go.Proofs.YtdfacbcenogplaaDoor
open Go.RowKit Go.Lib Go.Maps

set_option maxRecDepth 100000 in
set_option maxHeartbeats 8000000 in
theorem own_4 (fold bytes : Bool) {kind code : Int} {neg : Bool} {set : List (Int × Int)} {lo hi : Int} {kids : List Tr} (IH0 : OwnKids fold bytes kids) (d : Nat) (P : Nat → Prop) (vs : Array Value) (W : World) (hsh : (Tr.mk kind code neg set lo hi kids).shape d = true) (h : TrV W P (.mk kind code neg set lo hi kids) vs) (k7z : ¬ (kind = 7 ∧ hi = 0)) (q2 : kind ≠ 2) (q4 : kind ≠ 4) (q7 : kind ≠ 7) :
    Calls Tryd.prog 47 #[.agg vs, .agg #[.bool fold, .bool bytes]] W (OwnOut W ((Tr.mk kind code neg set lo hi kids).ownT (chLow fold bytes))) := by
  obtain ⟨_, hen, _, _, hshk⟩ := shape_open hsh
  have HEN := Lib.hid hen
  clear hsh hen
  obtain ⟨sv, A, cap, rfl, hkl, hR, hI⟩ := h.open
  obtain ⟨A3, c3, rfl⟩ := rx_store_set hR
  have hsl : set.length ≤ 100000 := by obtain ⟨_, _, _, q, _⟩ := hR; exact q
  -- the four blocks
  have b1 := (Below.refl W.heap.size W).alloc (Nat.le_refl _) (.cells #[.int .i64 kind, .int .i64 code, .bool neg, .slice A3 set.length c3, .int .i64 lo, .int .i64 hi, .slice A kids.length cap] 58)
  have T1 := Blk.new W #[.int .i64 kind, .int .i64 code, .bool neg, .slice A3 set.length c3, .int .i64 lo, .int .i64 hi, .slice A kids.length cap] 58
  obtain ⟨W1, hW1⟩ : ∃ W1, W.alloc (.cells #[.int .i64 kind, .int .i64 code, .bool neg, .slice A3 set.length c3, .int .i64 lo, .int .i64 hi, .slice A kids.length cap] 58) = W1 := ⟨_, rfl⟩
  have hz1 : W1.heap.size = W.heap.size + 1 := by rw [← hW1]; simp
  rw [hW1] at b1 T1
  have b2 := b1.alloc b1.size (.cells #[.bool fold, .bool bytes] 28)
  have Y2 := Blk.new W1 #[.bool fold, .bool bytes] 28
  have T2 := T1.alloc (.cells #[.bool fold, .bool bytes] 28)
  obtain ⟨W2, hW2⟩ : ∃ W2, W1.alloc (.cells #[.bool fold, .bool bytes] 28) = W2 := ⟨_, rfl⟩
  have hz2 : W2.heap.size = W.heap.size + 2 := by rw [← hW2]; simp [hz1]
  rw [hW2] at b2 T2 Y2
  have b3 := b2.alloc b2.size (.cells zero7 58)
  have R3 := Blk.new W2 zero7 58
  have T3 := T2.alloc (.cells zero7 58)
  have Y3 := Y2.alloc (.cells zero7 58)
  obtain ⟨W3, hW3⟩ : ∃ W3, W2.alloc (.cells zero7 58) = W3 := ⟨_, rfl⟩
  have hz3 : W3.heap.size = W.heap.size + 3 := by rw [← hW3]; simp [hz2]
  rw [hW3] at b3 T3 Y3 R3
  have b4 := b3.alloc b3.size (.cells #[.int .i64 kind, .int .i64 0, .bool false, .slice none 0 0, .int .i64 0, .int .i64 0, .slice none 0 0] 58)
  have N4 := Blk.new W3 #[.int .i64 kind, .int .i64 0, .bool false, .slice none 0 0, .int .i64 0, .int .i64 0, .slice none 0 0] 58
  have T4 := T3.alloc (.cells #[.int .i64 kind, .int .i64 0, .bool false, .slice none 0 0, .int .i64 0, .int .i64 0, .slice none 0 0] 58)
  have Y4 := Y3.alloc (.cells #[.int .i64 kind, .int .i64 0, .bool false, .slice none 0 0, .int .i64 0, .int .i64 0, .slice none 0 0] 58)
  have R4 := R3.alloc (.cells #[.int .i64 kind, .int .i64 0, .bool false, .slice none 0 0, .int .i64 0, .int .i64 0, .slice none 0 0] 58)
  obtain ⟨W4, hW4⟩ : ∃ W4, W3.alloc (.cells #[.int .i64 kind, .int .i64 0, .bool false, .slice none 0 0, .int .i64 0, .int .i64 0, .slice none 0 0] 58) = W4 := ⟨_, rfl⟩
  have hz4 : W4.heap.size = W.heap.size + 4 := by rw [← hW4]; simp [hz3]
  rw [hW4] at b4 T4 Y4 R4 N4
  rw [hz1] at Y4
  rw [hz2] at R4
  rw [hz3] at N4
  have N5 : Blk ((((((W4.setCell ⟨W.heap.size + 3, 1, none⟩ (.int .i64 0)).setCell ⟨W.heap.size + 3, 2, none⟩ (.bool false)).setCell ⟨W.heap.size + 3, 3, none⟩ (.slice none 0 0)).setCell ⟨W.heap.size + 3, 4, none⟩ (.int .i64 0)).setCell ⟨W.heap.size + 3, 5, none⟩ (.int .i64 0)).setCell ⟨W.heap.size + 3, 6, none⟩ (.slice none 0 0)) (W.heap.size + 3) #[.int .i64 kind, .int .i64 0, .bool false, .slice none 0 0, .int .i64 0, .int .i64 0, .slice none 0 0] 58 := N4.set.set.set.set.set.set
  have O5 : Off2 (W.heap.size + 3) (W.heap.size + 3) W4 ((((((W4.setCell ⟨W.heap.size + 3, 1, none⟩ (.int .i64 0)).setCell ⟨W.heap.size + 3, 2, none⟩ (.bool false)).setCell ⟨W.heap.size + 3, 3, none⟩ (.slice none 0 0)).setCell ⟨W.heap.size + 3, 4, none⟩ (.int .i64 0)).setCell ⟨W.heap.size + 3, 5, none⟩ (.int .i64 0)).setCell ⟨W.heap.size + 3, 6, none⟩ (.slice none 0 0)) := (((((Off2.setCell W4 _ _ 1 _).trans (Off2.setCell _ _ _ 2 _)).trans (Off2.setCell _ _ _ 3 _)).trans (Off2.setCell _ _ _ 4 _)).trans (Off2.setCell _ _ _ 5 _)).trans (Off2.setCell _ _ _ 6 _)
  obtain ⟨W5, hW5⟩ : ∃ W5, ((((((W4.setCell ⟨W.heap.size + 3, 1, none⟩ (.int .i64 0)).setCell ⟨W.heap.size + 3, 2, none⟩ (.bool false)).setCell ⟨W.heap.size + 3, 3, none⟩ (.slice none 0 0)).setCell ⟨W.heap.size + 3, 4, none⟩ (.int .i64 0)).setCell ⟨W.heap.size + 3, 5, none⟩ (.int .i64 0)).setCell ⟨W.heap.size + 3, 6, none⟩ (.slice none 0 0)) = W5 := ⟨_, rfl⟩
  rw [hW5] at N5 O5
  have hz5 : W.heap.size + 4 ≤ W5.heap.size := by have := O5.size; omega
  have b5 := b4.trans (O5.below (by omega) (by omega) b4.size)
  have T5 := T4.off2 O5 (by omega) (by omega)
  have Y5 := Y4.off2 O5 (by omega) (by omega)
  have R5 := R4.off2 O5 (by omega) (by omega)
  have e3 := N4.fro 1
  have e4 := N4.cell 1
  have IH := Lib.hid (fun (t : Tr) (ht : t ∈ kids) (vs : Array Value) (w : World) (hv : TrV w (fun g => g < W.heap.size ∧ P g) t vs) => IH0 t ht (d - 1) _ vs w (shapes_mem.1 hshk t ht) hv)
  have HKI := Lib.hid (fun (w : World) (hb : Below W.heap.size W w) => Tr.Ins.keep (w' := w) (P' := fun g => g < W.heap.size ∧ P g) (fun g hg hp => ⟨⟨hg, hp⟩, hb.block g hg⟩) kids A 0 hI)
  have CC := Lib.hid (fun (w : World) (hb : Below W.heap.size W w) => rg_clone (P := P) rfl (RgIn.kept (w' := w) (P' := P) hR (fun g hg hp => ⟨hp, hb.block g hg⟩)))
  have CF := Lib.hid (fun w => fold_any code bytes w)
  have d0 : W3.cell? ⟨W.heap.size, 0, none⟩ = some (.int .i64 kind) := T3.cell 0
  obtain ⟨⟨c0, c1, c2, c3', c4, c5, c6⟩, _⟩ := T5.seven
  obtain ⟨y0, y1⟩ := Y5.two
  obtain ⟨⟨n0, n1, n2, n3, n4, n5, n6⟩, f0, f1, f2, f3, f4, f5, f6⟩ := N5.seven
  obtain ⟨_, g0, g1, g2, g3, g4, g5, g6⟩ := N4.seven
  obtain ⟨ml, hml⟩ : ∃ ml, kids.length = ml := ⟨_, rfl⟩
  obtain ⟨sl, hsl2⟩ : ∃ sl, set.length = sl := ⟨_, rfl⟩
  have HML := Lib.hid hml
  have HSL := Lib.hid hsl2
  simp only [hml, hsl2] at hW1 T5 c3' c6 CC hkl hsl ⊢
  have HT4 := Lib.hid T5
  have HY4 := Lib.hid Y5
  obtain ⟨⟨r0, r1, r2, r3, r4, r5, r6⟩, s0, s1, s2, s3, s4, s5, s6⟩ := R5.seven
  have HR4 := Lib.hid R5
  have HN4 := Lib.hid N5
  have HB4 := Lib.hid b5
  obtain ⟨D, hD⟩ : ∃ D, (Tr.mk kind code neg set lo hi kids).ownT (chLow fold bytes) = D := ⟨_, rfl⟩
  rw [hD]
  rw [Tr.ownT] at hD
  have HD := Lib.hid hD
  clear h hR hI b1 b2 b3 b4 b5 T1 T2 T3 T4 T5 Y2 Y3 Y4 Y5 R3 R4 R5 N4 N5 O5 hml hsl2 hD hshk IH0
  have HZ := Lib.hid (show RgIn W5 (fun g => W.heap.size + 4 ≤ g ∧ RgB W5 g) [] (.slice none 0 0) from RgIn.nil _ _ _ _)
  obtain ⟨i0, hi0, hz0, hz1', hz2'⟩ := info_parts info_rx
  have HI := Lib.hid (And.intro hi0 (And.intro hz0 (And.intro hz1' hz2')))
  clear hi0 hz0 hz1' hz2'
  have HD1 := Lib.hid (show Tr.mk kind (if kind = 2 then chLow fold bytes code else 0) (decide (kind = 4) && neg) (if kind = 4 then set else []) (if kind = 7 then lo else 0) (if kind = 7 then hi else 0) (Tr.ownsT (chLow fold bytes) kids) = D from (if_neg k7z).symm.trans HD.out)
  clear HD
  clear k7z
  have hne : W.heap.size ≠ W.heap.size + 3 := by omega
  have hne2 : W.heap.size + 3 ≠ W.heap.size := by omega
  have OO := Lib.hid (fun (X : World) (o : Off2 (W.heap.size + 3) (W.heap.size + 3) W5 X) => And.intro (HT4.out.off2 o (by omega) (by omega)) (And.intro (HY4.out.off2 o (by omega) (by omega)) (And.intro (HR4.out.off2 o (by omega) (by omega)) (And.intro (HB4.out.trans (o.below (by omega) (by omega) HB4.out.size)) (Nat.le_trans hz5 o.size)))))
  clear CC
  have b2 : (kind == 2) = false := by rw [beq_eq_false_iff_ne]; exact q2
  have b4 : (kind == 4) = false := by rw [beq_eq_false_iff_ne]; exact q4
  have b7 : (kind == 7) = false := by rw [beq_eq_false_iff_ne]; exact q7
  have HDD := Lib.hid (show Tr.mk kind 0 false [] 0 0 (Tr.ownsT (chLow fold bytes) kids) = D by
    have := HD1.out
    rw [if_neg q2, decide_eq_false q4, if_neg q4, if_neg q7, if_neg q7] at this
    exact this)
  clear q2 q4 q7 HD1
  go_enter Tryd.func47, Tryd.ntmps47
  go_wp2_with fail
  clear hW1 hW2 hW3 hW4 hW5
  have HND := Lib.hid HN4.out
  have HOF := Lib.hid (OO.out _ (Off2.of_below (Below.refl _ _)))
  have HSET := Lib.hid HZ.out
  obtain ⟨W6, hW6⟩ : ∃ W6, W5 = W6 := ⟨_, rfl⟩
  rw [hW6] at HND HOF HSET
  rw [hW6]
  clear hW6 OO c0 c1 c2 c3' c4 c5 c6 y0 y1 n0 n1 n2 n3 n4 n5 n6 f0 f1 f2 f3 f4 f5 f6 g0 g1 g2 g3 g4 g5 g6 d0 e3 e4 r0 r1 r2 r3 r4 r5 r6 s0 s1 s2 s3 s4 s5 s6 HZ HT4 HY4 HR4 HN4 HB4 CF 
  go_loopw [50] (fun kv wr => ∃ (k : Nat) (v6 : Value), kv = .int .i64 (k : Int) ∧ k ≤ ml ∧ Blk wr (W.heap.size + 3) #[.int .i64 kind, .int .i64 0, .bool false, (.slice none 0 0), .int .i64 0, .int .i64 0, v6] 58 ∧ KdsT wr (W.heap.size + 4) v6 (Tr.ownsT (chLow fold bytes) (kids.take k)) ∧
    (Blk wr W.heap.size #[.int .i64 kind, .int .i64 code, .bool neg, .slice A3 sl c3, .int .i64 lo, .int .i64 hi, .slice A ml cap] 58 ∧ Blk wr (W.heap.size + 1) #[.bool fold, .bool bytes] 28 ∧ Blk wr (W.heap.size + 2) zero7 58 ∧ Below W.heap.size W wr ∧ W.heap.size + 4 ≤ wr.heap.size) ∧
    RgIn wr (fun g => W.heap.size + 4 ≤ g ∧ RgB wr g) [] (.slice none 0 0)) (fun kv _ => ml - (RowKit.intOf kv).toNat)
  case atStart => exact ⟨0, _, rfl, Nat.zero_le _, HND.out, by rw [List.take_zero, Tr.ownsT]; exact KdsT.nil _ _, HOF.out, HSET.out⟩
  case round =>
    obtain ⟨k, v6, rfl, hk, hN, hK, ⟨hT, hY, hR, hB, hz⟩, hS⟩ := hrel
    have hlen : (Tr.ownsT (chLow fold bytes) (kids.take k)).length = k := by
      have := HML.out
      rw [ownsT_len, List.length_take]
      omega
    obtain ⟨A6, cap6, rfl⟩ := hK.slice
    rw [hlen] at hN hK
    have HLEN := Lib.hid hlen
    clear hlen
    by_cases hlt : k < ml
    · have hkl2 : k < kids.length := by rw [HML.out]; exact hlt
      obtain ⟨t, ht⟩ : ∃ t, kids[k] = t := ⟨_, rfl⟩
      have hmem : t ∈ kids := by rw [← ht]; exact List.getElem_mem hkl2
      obtain ⟨k1, hk1⟩ : ∃ k1, k + 1 = k1 := ⟨_, rfl⟩
      have HTK := Lib.hid (show Tr.ownsT (chLow fold bytes) (kids.take k1) = Tr.ownsT (chLow fold bytes) (kids.take k) ++ [t.ownT (chLow fold bytes)] by rw [← hk1, List.take_succ_eq_append_getElem hkl2, ht, ownsT_app, Tr.ownsT, Tr.ownsT])
      obtain ⟨g, kind1, code1, neg1, A31, n31, c31, lo1, hi1, A21, n21, c21, hA, ⟨u0, u1, u2, u3, u4, u5, u6⟩, hT1⟩ := TrV.at (HKI.out wr hB) k t (by rw [List.getElem?_eq_getElem hkl2, ht])
      subst hA
      obtain ⟨xs, ho, hx⟩ := hK
      rw [HLEN.out] at ho
      have HO := Lib.hid (And.intro ho hx)
      have HVB := Lib.hid (show ∀ q, (Value.slice A6 k cap6).ownBlock = some q → W.heap.size + 4 ≤ q ∧ q < wr.heap.size from fun q hq => by
        rcases ho.2 with ⟨e, _⟩ | ⟨g', cap', cur, e, hg', hr', _⟩
        · rw [e] at hq; cases hq
        · rw [e] at hq
          cases hq
          exact ⟨hg', (Array.getElem?_eq_some_iff.1 hr').1⟩)
      have HENT := Lib.hid (enters_of Tryd.func47 (by kernel_rfl) rfl)
      have hkb : wr.heap.size ≠ W.heap.size + 3 := by omega
      have CO := Lib.hid (fun (X : World) (hb : Below wr.heap.size wr X) => IH.out t hmem _ X (hT1.kept (P' := fun g => g < W.heap.size ∧ P g) (fun g hg hp => ⟨hp, hb.block g hg⟩)))
      have bX0 := (Below.refl wr.heap.size wr).alloc (Nat.le_refl _) (.cells #[.int .i64 kind1, .int .i64 code1, .bool neg1, .slice A31 n31 c31, .int .i64 lo1, .int .i64 hi1, .slice A21 n21 c21] 58)
      have K0 := Blk.new wr #[.int .i64 kind1, .int .i64 code1, .bool neg1, .slice A31 n31 c31, .int .i64 lo1, .int .i64 hi1, .slice A21 n21 c21] 58
      obtain ⟨X0, hX0⟩ : ∃ X0, wr.alloc (.cells #[.int .i64 kind1, .int .i64 code1, .bool neg1, .slice A31 n31 c31, .int .i64 lo1, .int .i64 hi1, .slice A21 n21 c21] 58) = X0 := ⟨_, rfl⟩
      have hz0 : X0.heap.size = wr.heap.size + 1 := by rw [← hX0]; simp
      rw [hX0] at bX0 K0
      have N0 := hN.below bX0 hN.lt
      have Y0 := hY.below bX0 hY.lt
      have HALL := Lib.hid (And.intro hT (And.intro hR (And.intro hB (And.intro hS (And.intro N0 (And.intro Y0 K0))))))
      have KP := Lib.hid (fun (X : World) (hb : Below X0.heap.size X0 X) => show (X.cell? ⟨W.heap.size + 3, 6, none⟩ = some (.slice A6 k cap6) ∧ X.frozen? ⟨W.heap.size + 3, 6, none⟩ = false) ∧ ((X.cell? ⟨wr.heap.size, 0, none⟩ = some (.int .i64 kind1) ∧ X.cell? ⟨wr.heap.size, 1, none⟩ = some (.int .i64 code1) ∧ X.cell? ⟨wr.heap.size, 2, none⟩ = some (.bool neg1) ∧ X.cell? ⟨wr.heap.size, 3, none⟩ = some (.slice A31 n31 c31) ∧ X.cell? ⟨wr.heap.size, 4, none⟩ = some (.int .i64 lo1) ∧ X.cell? ⟨wr.heap.size, 5, none⟩ = some (.int .i64 hi1) ∧ X.cell? ⟨wr.heap.size, 6, none⟩ = some (.slice A21 n21 c21)) ∧ X.cell? ⟨W.heap.size + 1, 0, none⟩ = some (.bool fold) ∧ X.cell? ⟨W.heap.size + 1, 1, none⟩ = some (.bool bytes)) from ⟨⟨(N0.below hb N0.lt).cell 6, (N0.below hb N0.lt).fro 6⟩, (K0.below hb K0.lt).seven.1, (Y0.below hb Y0.lt).two⟩)
      have KA := Lib.hid (fun (X : World) (hb : Below X0.heap.size X0 X) (o : Obj) => show ((X.alloc o).cell? ⟨W.heap.size + 3, 6, none⟩ = some (.slice A6 k cap6) ∧ (X.alloc o).frozen? ⟨W.heap.size + 3, 6, none⟩ = false) ∧ (fun w' => ((w'.cell? ⟨wr.heap.size, 0, none⟩ = some (.int .i64 kind1) ∧ w'.cell? ⟨wr.heap.size, 1, none⟩ = some (.int .i64 code1) ∧ w'.cell? ⟨wr.heap.size, 2, none⟩ = some (.bool neg1) ∧ w'.cell? ⟨wr.heap.size, 3, none⟩ = some (.slice A31 n31 c31) ∧ w'.cell? ⟨wr.heap.size, 4, none⟩ = some (.int .i64 lo1) ∧ w'.cell? ⟨wr.heap.size, 5, none⟩ = some (.int .i64 hi1) ∧ w'.cell? ⟨wr.heap.size, 6, none⟩ = some (.slice A21 n21 c21)) ∧ w'.cell? ⟨W.heap.size + 1, 0, none⟩ = some (.bool fold) ∧ w'.cell? ⟨W.heap.size + 1, 1, none⟩ = some (.bool bytes))) (X.alloc o) from ⟨⟨((N0.below hb N0.lt).alloc o).cell 6, ((N0.below hb N0.lt).alloc o).fro 6⟩, ((K0.below hb K0.lt).alloc o).seven.1, ((Y0.below hb Y0.lt).alloc o).two⟩)
      obtain ⟨⟨a6, b6⟩, ⟨q0, q1, q2, q3, q4, q5, q6⟩, p0, p1⟩ := KP.out X0 (Below.refl _ _)
      obtain ⟨⟨ad6, bd6⟩, SD⟩ := KP.out X0.drew (below_drew' _ _)
      have HBX := Lib.hid bX0
      have OW := Lib.hid (fun (X1 : World) (hb : Below wr.heap.size wr X1) (e0 e1 : Int) (e2 : Bool) (E3 : Option Addr) (m3 d3 : Nat) (e4 e5 : Int) (E6 : Option Addr) (m6 d6 : Nat) => run_append_own_at (P := Tryd.prog) (X1.alloc (.cells #[.int .i64 e0, .int .i64 e1, .bool e2, .slice E3 m3 d3, .int .i64 e4, .int .i64 e5, .slice E6 m6 d6] 58)) (W.heap.size + 4) 56 56 58 i0 _ 7 88 Tryd.underlying56 HI.out.1 HI.out.2.1 HI.out.2.2.1 HI.out.2.2.2 rfl (by decide) (.slice A6 k cap6) k xs ((own_bel ho hb).alloc _) ⟨X1.heap.size, 0, none⟩ 1 1 [.int .i64 e0, .int .i64 e1, .bool e2, .slice E3 m3 d3, .int .i64 e4, .int .i64 e5, .slice E6 m6 d6] rfl (rx_row_new X1 #[.int .i64 e0, .int .i64 e1, .bool e2, .slice E3 m3 d3, .int .i64 e4, .int .i64 e5, .slice E6 m6 d6] 58) (by simp [Value.oneCell']) (by unfold maxLen; omega) (by omega) (by have := hb.size; simp; omega))
      have hw2 : IntKind.i64.wrap ((k : Int) + 1) = (k1 : Int) := by simp [IntKind.wrap, IntKind.bits, IntKind.signed]; omega
      have HK1 := Lib.hid hk1
      have FINAL := Lib.hid (show ∀ (X1 : World) (e0 e1 : Int) (e2 : Bool) (E3 : Option Addr) (m3 d3 : Nat) (e4 e5 : Int) (E6 : Option Addr) (m6 d6 : Nat) (A7 : Option Addr) (c7 : Nat) (w4 : World), TrV X1 (fun g => X0.drew.heap.size ≤ g ∧ SetB X1 g) (t.ownT (chLow fold bytes)) #[.int .i64 e0, .int .i64 e1, .bool e2, .slice E3 m3 d3, .int .i64 e4, .int .i64 e5, .slice E6 m6 d6] → Below X0.heap.size X0 X1 →
          w4.ownsRow (W.heap.size + 4) 58 7 (.slice A7 (k + 1) c7) (k + 1) (xs ++ [.int .i64 e0, .int .i64 e1, .bool e2, .slice E3 m3 d3, .int .i64 e4, .int .i64 e5, .slice E6 m6 d6]) → (X1.alloc (.cells #[.int .i64 e0, .int .i64 e1, .bool e2, .slice E3 m3 d3, .int .i64 e4, .int .i64 e5, .slice E6 m6 d6] 58)).grownBy w4 (Value.slice A6 k cap6).ownBlock → ((Value.slice A7 (k + 1) c7).ownBlock = (Value.slice A6 k cap6).ownBlock ∨ (Value.slice A7 (k + 1) c7).ownBlock = some (X1.alloc (.cells #[.int .i64 e0, .int .i64 e1, .bool e2, .slice E3 m3 d3, .int .i64 e4, .int .i64 e5, .slice E6 m6 d6] 58)).heap.size) →
          Blk (w4.setCell ⟨W.heap.size + 3, 6, none⟩ (.slice A7 (k + 1) c7)) (W.heap.size + 3) #[.int .i64 kind, .int .i64 0, .bool false, (.slice none 0 0), .int .i64 0, .int .i64 0, .slice A7 (k + 1) c7] 58 ∧ KdsT (w4.setCell ⟨W.heap.size + 3, 6, none⟩ (.slice A7 (k + 1) c7)) (W.heap.size + 4) (.slice A7 (k + 1) c7) (Tr.ownsT (chLow fold bytes) (kids.take k1)) ∧
          (Blk (w4.setCell ⟨W.heap.size + 3, 6, none⟩ (.slice A7 (k + 1) c7)) W.heap.size #[.int .i64 kind, .int .i64 code, .bool neg, .slice A3 sl c3, .int .i64 lo, .int .i64 hi, .slice (some ⟨g, 0, none⟩) ml cap] 58 ∧ Blk (w4.setCell ⟨W.heap.size + 3, 6, none⟩ (.slice A7 (k + 1) c7)) (W.heap.size + 1) #[.bool fold, .bool bytes] 28 ∧ Blk (w4.setCell ⟨W.heap.size + 3, 6, none⟩ (.slice A7 (k + 1) c7)) (W.heap.size + 2) zero7 58 ∧ Below W.heap.size W (w4.setCell ⟨W.heap.size + 3, 6, none⟩ (.slice A7 (k + 1) c7)) ∧ W.heap.size + 4 ≤ (w4.setCell ⟨W.heap.size + 3, 6, none⟩ (.slice A7 (k + 1) c7)).heap.size) ∧
          RgIn (w4.setCell ⟨W.heap.size + 3, 6, none⟩ (.slice A7 (k + 1) c7)) (fun g => W.heap.size + 4 ≤ g ∧ RgB (w4.setCell ⟨W.heap.size + 3, 6, none⟩ (.slice A7 (k + 1) c7)) g) [] (.slice none 0 0) from by
        intro X1 e0 e1 e2 E3 m3 d3 e4 e5 E6 m6 d6 A7 c7 w4 hT1 hb1' ho2 hgr hvv
        obtain ⟨hT, hR, hB, hS, N0, Y0, K0⟩ := HALL.out
        have HNX := Lib.hid (fun (cs : Array Value) (g : Nat) (t : TypeId) (hb : Blk X0 g cs t) (hg : g < W.heap.size + 4 ∨ g = wr.heap.size) => Blk.grown ((hb.below hb1' hb.lt).alloc (.cells #[.int .i64 e0, .int .i64 e1, .bool e2, .slice E3 m3 d3, .int .i64 e4, .int .i64 e5, .slice E6 m6 d6] 58)) hgr (fun q => by have := HVB.out g q.symm; omega))
        have hbX := HBX.out.trans (hb1'.mono (by omega))
        obtain ⟨ho1, hx1⟩ := kds_move HO.out.1 HO.out.2 hbX
        have hz1' := Below.size hb1'
        have K4 := KdsT.snoc (w := X1) (X := X1.alloc (.cells #[.int .i64 e0, .int .i64 e1, .bool e2, .slice E3 m3 d3, .int .i64 e4, .int .i64 e5, .slice E6 m6 d6] 58)) (m := X0.heap.size) (ts := Tr.ownsT (chLow fold bytes) (kids.take k)) (by rw [HLEN.out]; exact ho1) hx1 hT1 (fun q hq => by have := HVB.out q hq; omega) (by omega) ((Below.refl X1.heap.size X1).alloc (Nat.le_refl _) _) (by rw [HLEN.out]; exact ho2) hgr (by rw [World.size_alloc]; rw [World.size_alloc] at hvv; exact hvv)
        have hset : ∀ g, g ≠ W.heap.size + 3 → (w4.setCell ⟨W.heap.size + 3, 6, none⟩ (.slice A7 (k + 1) c7)).heap[g]? = w4.heap[g]? := fun g hg => Below.heap_setCell w4 ⟨W.heap.size + 3, 6, none⟩ _ g hg
        have K5 := KdsT.kept (w' := w4.setCell ⟨W.heap.size + 3, 6, none⟩ (.slice A7 (k + 1) c7)) K4 (fun g _ hn => hset g (by omega))
        rw [← HTK.out] at K5
        have hgw : W.heap.size ≤ X1.heap.size := by omega
        have B4 : Below W.heap.size W w4 := ((hB.trans (hbX.mono (by omega))).alloc hgw (.cells #[.int .i64 e0, .int .i64 e1, .bool e2, .slice E3 m3 d3, .int .i64 e4, .int .i64 e5, .slice E6 m6 d6] 58)).grown hgr (by simp; omega) (fun q hq => by have := HVB.out q hq; omega)
        have B5 : Below W.heap.size W (w4.setCell ⟨W.heap.size + 3, 6, none⟩ (.slice A7 (k + 1) c7)) := B4.setCell (p := ⟨W.heap.size + 3, 6, none⟩) (by show W.heap.size ≤ W.heap.size + 3; omega) (.slice A7 (k + 1) c7)
        have N5 := (HNX.out _ _ _ N0 (.inl (by omega))).set (j := 6) (u := (.slice A7 (k + 1) c7))
        have T5 := (HNX.out _ _ _ (hT.below HBX.out hT.lt) (.inl (by omega))).other (g' := W.heap.size + 3) (j := 6) (u := (.slice A7 (k + 1) c7)) (by omega)
        have Y5 := (HNX.out _ _ _ Y0 (.inl (by omega))).other (g' := W.heap.size + 3) (j := 6) (u := (.slice A7 (k + 1) c7)) (by omega)
        have R5 := (HNX.out _ _ _ (hR.below HBX.out hR.lt) (.inl (by omega))).other (g' := W.heap.size + 3) (j := 6) (u := (.slice A7 (k + 1) c7)) (by omega)
        have hgz := hgr.size
        have S5 := RgIn.kept (w' := w4.setCell ⟨W.heap.size + 3, 6, none⟩ (.slice A7 (k + 1) c7)) (P' := fun g => W.heap.size + 4 ≤ g ∧ RgB (w4.setCell ⟨W.heap.size + 3, 6, none⟩ (.slice A7 (k + 1) c7)) g) hS (fun g hg hp => by
          have h1 := hbX.block g hg
          have h2 : (X1.alloc (.cells #[.int .i64 e0, .int .i64 e1, .bool e2, .slice E3 m3 d3, .int .i64 e4, .int .i64 e5, .slice E6 m6 d6] 58)).heap[g]? = X1.heap[g]? := Below.heap_alloc X1 _ g (by omega)
          have h3 := hgr.block g (by simp; omega) (rg_not_own HO.out.1 hp.2)
          have h4 := hset g (by omega)
          have h5 := h4.trans (h3.trans (h2.trans h1))
          exact ⟨⟨hp.1, hp.2.kept h5⟩, h5⟩)
        have hz5' : W.heap.size + 4 ≤ (w4.setCell ⟨W.heap.size + 3, 6, none⟩ (.slice A7 (k + 1) c7)).heap.size := by
          have := S5
          have h6 : w4.heap.size ≤ (w4.setCell ⟨W.heap.size + 3, 6, none⟩ (.slice A7 (k + 1) c7)).heap.size := ((Below.refl 0 w4).setCell (p := ⟨W.heap.size + 3, 6, none⟩) (Nat.zero_le _) (.slice A7 (k + 1) c7)).size
          simp at hgz
          omega
        exact ⟨N5, K5, ⟨T5, Y5, R5, B5, hz5'⟩, S5⟩)
      obtain ⟨⟨sq0, sq1, sq2, sq3, sq4, sq5, sq6⟩, sp0, sp1⟩ := SD
      clear ht hmem hkl2 hT1 hN hY hT hR hB hS N0 Y0 K0 bX0 ho hx hk1 IH HKI
      have hz0' := Nat.le_of_eq hz0
      have hz0'' := Nat.le_of_eq hz0.symm
      clear hz0
      go_wp2_with fail
      clear hX0
      go_region_law (first
        | (refine step_call_nfa rfl 47 HENT.out (.tmp 56) (.tmp 57) 58 28 rfl (.agg #[.int .i64 kind1, .int .i64 code1, .bool neg1, .slice A31 n31 c31, .int .i64 lo1, .int .i64 hi1, .slice A21 n21 c21]) (by simp [Act.eval]) (.agg #[.bool fold, .bool bytes]) (by simp [Act.eval]) ((CO.out _ (HBX.out.trans (below_drew' _ _))).mono ?_); rintro e X1 ⟨us, rfl, hT1, hb1⟩; refine ⟨_, rfl, ?_⟩; obtain ⟨e0, e1, e2, E3, m3, d3, e4, e5, E6, m6, d6, rfl⟩ := hT1.form; have hb1' : Below X0.heap.size X0 X1 := (below_drew' _ _).trans hb1; obtain ⟨⟨a16, b16⟩, _⟩ := KP.out X1 hb1'; obtain ⟨⟨a26, b26⟩, _⟩ := KA.out X1 hb1' (.cells #[.int .i64 e0, .int .i64 e1, .bool e2, .slice E3 m3 d3, .int .i64 e4, .int .i64 e5, .slice E6 m6 d6] 58); have HX1 := Lib.hid (And.intro hT1 hb1'); clear hT1 hb1 hb1')
        | (obtain ⟨v', w4, hr, ho2, hgr, _, hvv⟩ := OW.out X1 (HBX.out.trans (HX1.out.2.mono (by omega))) e0 e1 e2 E3 m3 d3 e4 e5 E6 m6 d6; obtain ⟨A7, c7, rfl⟩ := own_slice ho2; have HG := Lib.hid (And.intro ho2 (And.intro hgr hvv)); have NB := Blk.grown ((HALL.out.2.2.2.2.1.below HX1.out.2 HALL.out.2.2.2.2.1.lt).alloc (.cells #[.int .i64 e0, .int .i64 e1, .bool e2, .slice E3 m3 d3, .int .i64 e4, .int .i64 e5, .slice E6 m6 d6] 58)) hgr (fun q => by have := HVB.out _ q.symm; omega); have a7 : w4.cell? ⟨W.heap.size + 3, 6, none⟩ = some (.slice A6 k cap6) := NB.cell 6; have b7 : w4.frozen? ⟨W.heap.size + 3, 6, none⟩ = false := NB.fro 6; clear ho2 hgr hvv NB; refine step_append_nfa rfl (.tmp 55) (.tmp 59) 56 56 rfl (.slice A6 k cap6) (by simp [Act.eval]) (.slice (some ⟨X1.heap.size, 0, none⟩) 1 1) (by simp [Act.eval]) (.slice A7 (k + 1) c7) w4 hr ?_)
        | fail)
      all_goals
        go_wp2_with fail
        refine ⟨⟨k1, .slice A7 (k + 1) c7, rfl, by have := HK1.out; omega, FINAL.out X1 _ _ _ _ _ _ _ _ _ _ _ _ _ _ HX1.out.1 HX1.out.2 HG.out.1 HG.out.2.1 HG.out.2.2⟩, ?_⟩
        have := HK1.out
        simp [RowKit.intOf]
        omega
    · obtain rfl : k = ml := by omega
      have hkn : kids.take k = kids := List.take_of_length_le (by rw [HML.out]; omega)
      have HF := Lib.hid (And.intro hN (And.intro hK (And.intro hT (And.intro hR (And.intro hB hS)))))
      have HKN := Lib.hid hkn
      obtain ⟨⟨n0, n1, n2, n3, n4, n5, n6⟩, _⟩ := hN.seven
      obtain ⟨⟨r0, r1, r2, r3, r4, r5, r6⟩, s0, s1, s2, s3, s4, s5, s6⟩ := hR.seven
      have HZ2 := Lib.hid hz
      clear hkn hN hK hT hY hR hB hS IH HKI hz
      go_wp2_with fail
      obtain ⟨hN, hK, hT, hR, hB, hS⟩ := HF.out
      have hz := HZ2.out
      obtain ⟨z7, o7⟩ := rx_end7 (.int .i64 kind) (.int .i64 0) (.bool false) (.slice none 0 0) (.int .i64 0) (.int .i64 0) (.slice A6 k cap6) hR
      obtain ⟨⟨x0, x1, x2, x3, x4, x5, x6⟩, _⟩ := z7.seven
      have FINB := hB.trans (o7.below (by omega) (by omega) hB.size)
      have KF := KdsT.kept (w' := put7 wr (W.heap.size + 2) (.int .i64 kind) (.int .i64 0) (.bool false) (.slice none 0 0) (.int .i64 0) (.int .i64 0) (.slice A6 k cap6)) hK (fun g hg hn => o7.block g hg (by omega) (by omega))
      have SF := RgIn.kept (w' := put7 wr (W.heap.size + 2) (.int .i64 kind) (.int .i64 0) (.bool false) (.slice none 0 0) (.int .i64 0) (.int .i64 0) (.slice A6 k cap6)) (P' := fun g => W.heap.size ≤ g ∧ SetB (put7 wr (W.heap.size + 2) (.int .i64 kind) (.int .i64 0) (.bool false) (.slice none 0 0) (.int .i64 0) (.int .i64 0) (.slice A6 k cap6)) g) hS (fun g hg hp => ⟨⟨by omega, (hp.2.kept (o7.block g hg (by omega) (by omega))).set⟩, o7.block g hg (by omega) (by omega)⟩)
      obtain ⟨WX, hWX⟩ : ∃ WX, put7 wr (W.heap.size + 2) (.int .i64 kind) (.int .i64 0) (.bool false) (.slice none 0 0) (.int .i64 0) (.int .i64 0) (.slice A6 k cap6) = WX := ⟨_, rfl⟩
      rw [hWX] at x0 x1 x2 x3 x4 x5 x6 FINB KF SF
      clear n0 n1 n2 n3 n4 n5 n6 r0 r1 r2 r3 r4 r5 r6 s0 s1 s2 s3 s4 s5 s6 z7 o7 hN hT hR hB hS hK
      unfold put7 at hWX
      try rw [hWX]
      clear hWX
      refine bodyPost_ret (v := .agg #[.int .i64 kind, .int .i64 0, .bool false, (.slice none 0 0), .int .i64 0, .int .i64 0, .slice A6 k cap6]) (by simp [results, Tryd.results47, go_sem, x0, x1, x2, x3, x4, x5, x6]) rfl ?_
      rw [HKN.out] at KF
      have hl : (Tr.ownsT (chLow fold bytes) kids).length = k := by rw [ownsT_len]; exact HML.out
      rw [← HDD.out]
      refine ⟨_, rfl, ?_, FINB⟩
      have := TrV.mk (kind := kind) (code := 0) (neg := false) (set := []) (lo := 0) (hi := 0) (kids := Tr.ownsT (chLow fold bytes) kids) (sv := (.slice none 0 0)) (A := A6) (cap := cap6) (w := WX) (P := fun g => W.heap.size ≤ g ∧ SetB WX g) (by rw [hl]; exact hkl) SF ((KdsT.ins KF).keep' (fun g hp => ⟨by omega, hp.2⟩))
      rw [hl] at this
      exact this
end Go.Proofs.YtdfacbcenogplaaDoor

namespace Go.Proofs.YtdfacbcenogplaaDoor
open Go.RowKit Go.Lib Go.Maps

theorem nfa_own_n (fold bytes : Bool) : ∀ (N : Nat) (t : Tr), SizeOf.sizeOf t ≤ N → ∀ (d : Nat) (P : Nat → Prop) (vs : Array Value) (W : World), t.shape d = true → TrV W P t vs → Calls Tryd.prog 47 #[.agg vs, .agg #[.bool fold, .bool bytes]] W (OwnOut W (t.ownT (chLow fold bytes)))
  | 0, t, h => by cases t; simp at h
  | N + 1, .mk kind code neg set lo hi kids, hN => fun d P vs W hsh h => by
    have IH0 : OwnKids fold bytes kids := fun t ht => nfa_own_n fold bytes N t (by have := size_kid (kind := kind) (code := code) (neg := neg) (set := set) (lo := lo) (hi := hi) ht; omega)
    by_cases k7z : kind = 7 ∧ hi = 0
    · exact own_z fold bytes IH0 d P vs W hsh h k7z
    · by_cases q2 : kind = 2
      · cases fold
        · exact own_1 false bytes IH0 d P vs W hsh h k7z q2 rfl
        · exact own_0 true bytes IH0 d P vs W hsh h k7z q2 rfl
      · by_cases q4 : kind = 4
        · exact own_2 fold bytes IH0 d P vs W hsh h k7z q4
        · by_cases q7 : kind = 7
          · exact own_3 fold bytes IH0 d P vs W hsh h k7z q7 (fun q => k7z ⟨q7, q⟩)
          · exact own_4 fold bytes IH0 d P vs W hsh h k7z q2 q4 q7
theorem own_any (fold bytes : Bool) : OwnAny fold bytes := fun t d P vs W hs h => nfa_own_n fold bytes _ t (Nat.le_refl _) d P vs W hs h
end Go.Proofs.YtdfacbcenogplaaDoor

namespace Go.Proofs.YtdfacbcenogplaaDoor
open Go.RowKit Go.Lib Go.Maps

set_option maxRecDepth 100000 in
set_option maxHeartbeats 2000000 in
theorem nfaFixed_any {W : World} (hE : REnv W) : Calls Tryd.prog 11 #[] W fun e w' => e = .returned (.bool true) ∧ Below W.heap.size W w' := by
  have CR := Lib.hid (ready_any (own_any false false) (s := exP10) (by decide) hE)
  have HE := Lib.hid hE
  unfold exP10 at CR
  have HP := Lib.hid ex10_parse
  unfold exP10 at HP
  clear hE
  go_enter Tryd.func11, Tryd.ntmps11
  go_wp2_with fail
  refine CR.out.mono ?_
  rintro e W1 ⟨hb1, hr⟩
  rcases hr with ⟨rfl, t, p, er, hp, he⟩ | ⟨t, Pb, rfl, hp, hR⟩
  · rw [HP.out] at hp
    simp only [Prod.mk.injEq] at hp
    exact absurd hp.2.2.symm he
  · rw [HP.out] at hp
    simp only [Prod.mk.injEq] at hp
    obtain ⟨rfl, _⟩ := hp
    have hE1 := HE.out.kept hb1
    obtain ⟨f1, f2, _⟩ := hE1.far
    have CF := Lib.hid (find_ready hR hE1.tabs f1 f2 exS10 (by decide) (a := 0) (by decide))
    have CF2 := Lib.hid (fun (X : World) (hb : Below W1.heap.size W1 X) => find_ready (hR.below hb) (hE1.kept hb).tabs (Nat.lt_of_lt_of_le f1 hb.size) (Nat.lt_of_lt_of_le f2 hb.size) exS10 (by decide) (a := 2) (by decide))
    rw [ex10_own, ex10_place.1] at CF
    rw [ex10_own, ex10_place.2] at CF2
    have HB1 := Lib.hid hb1
    clear hR hE1 f1 f2 hb1
    go_wp2_with fail
    refine CF.out.mono ?_
    rintro e W2 ⟨found, st, en, rfl, _, ⟨st', en', he1, hT⟩, hb2⟩
    obtain ⟨rfl, hu⟩ := ex10_one.uniq hT
    obtain ⟨rfl, rfl⟩ := hu rfl
    obtain ⟨rfl, rfl⟩ := he1 rfl
    have HB2 := Lib.hid hb2
    clear hT hu he1 hb2
    go_wp2_with fail
    refine (CF2.out W2 HB2.out).mono ?_
    rintro e W3 ⟨found, st, en, rfl, _, ⟨st', en', he1, hT⟩, hb3⟩
    obtain ⟨rfl, hu⟩ := ex10_two.uniq hT
    obtain ⟨rfl, rfl⟩ := hu rfl
    obtain ⟨rfl, rfl⟩ := he1 rfl
    have HB3 := Lib.hid (HB1.out.trans ((HB2.out.trans (hb3.mono HB2.out.size)).mono HB1.out.size))
    clear hT hu he1 hb3
    go_wp2_with fail
    go_ret
    exact ⟨rfl, HB3.out⟩
end Go.Proofs.YtdfacbcenogplaaDoor

namespace Go.Proofs.YtdfacbcenogplaaDoor
open Go.Lib

/-- A group that stands at a place of a text is the pattern within, or one group too many. -/
theorem grp_at {s t : ByteArray} {x : Tr} {o : Nat} (E : Emb s t (o + 1) 41) (h : chD s false 40 0 = .ok x s.size) (ho : o < t.size) (h40 : (t.get! o).toNat = 40) (h41 : st1 t (o + 1 + s.size) 41 = true) (hz : s.size ≤ t.size) :
    nodeF (grpF t false 40) t false o = .ok x (o + 1 + s.size + 1) ∨ ∃ p, nodeF (grpF t false 40) t false o = .bad p 91 := by
  have hn : nodeF (grpF t false 40) t false o = grpF t false 40 o (o + 1) := by
    unfold nodeF
    rw [nx_asc t o false ho (by omega), h40, if_pos rfl]
  rw [hn]
  rcases E.ch false (big := True) (grp_in s false 40) (E.grp false 40 39 (.inl trivial)) (s.size + 1) (t.size + 1) 0 [] (by omega) (Nat.zero_le _) x s.size h (fun e => by cases e) with e | ⟨_, p, e⟩
  · left
    rw [grpF]
    rw [Nat.add_zero] at e
    rw [e]
    simp only [h41, if_true]
  · right
    refine ⟨p, ?_⟩
    rw [grpF]
    rw [Nat.add_zero] at e
    rw [e]
theorem row_one {t : ByteArray} {x : Tr} {o k : Nat} (ho : o < t.size) (h40 : (t.get! o).toNat = 40) (hn : nodeF (grpF t false 40) t false o = .ok x k) (hk : rowE t k) (hz : 0 < t.size) : rowF (grpF t false 40) t false (t.size + 1) o [] = .ok x k := by
  have st : ∀ d, d ≠ 40 → st1 t o d = false := fun d hd => by
    unfold st1
    rw [h40, decide_eq_false_iff_not]
    omega
  have he : ¬ rowE t o := by
    unfold rowE
    rw [st 124 (by omega), st 41 (by omega)]
    simp
    omega
  obtain ⟨g, hg⟩ : ∃ g, t.size = g + 1 := ⟨t.size - 1, by omega⟩
  rw [row_node he (.inl rfl) hn, hg, row_end hk]
  rfl
theorem row_onebad {t : ByteArray} {p o : Nat} (ho : o < t.size) (h40 : (t.get! o).toNat = 40) (hn : nodeF (grpF t false 40) t false o = .bad p 91) : rowF (grpF t false 40) t false (t.size + 1) o [] = .bad p 91 := by
  have st : ∀ d, d ≠ 40 → st1 t o d = false := fun d hd => by
    unfold st1
    rw [h40, decide_eq_false_iff_not]
    omega
  have he : ¬ rowE t o := by
    unfold rowE
    rw [st 124 (by omega), st 41 (by omega)]
    simp
    omega
  exact row_nodebad he (.inl rfl) hn
/-- The choice of two patterns in brackets. -/
theorem join_two {a b t : ByteArray} {x y : Tr} {p q : Nat} (h1 : rxParse a false = (x, p, 0)) (h2 : rxParse b false = (y, q, 0)) (hs : a.size + b.size ≤ 900) (ht : t.data.toList = 40 :: (a.data.toList ++ (41 :: 124 :: 40 :: (b.data.toList ++ [41])))) :
    rxParse t false = (trN 6 [x, y], 0, 0) ∨ ∃ p, rxParse t false = (trZ, p, 91) := by
  obtain ⟨a1, a2, _, _⟩ := parse_open h1
  obtain ⟨b1, b2, _, _⟩ := parse_open h2
  have hz : t.size = a.size + b.size + 5 := by
    rw [Lib.size_eq, ht]
    simp
    omega
  have EA : Emb a t 1 41 := emb_of (l := [40]) (m := 41 :: 124 :: 40 :: (b.data.toList ++ [41])) (by rw [ht]; rfl) (.inr ⟨.inr rfl, 41, _, rfl, rfl⟩)
  have EB : Emb b t (a.size + 4) 41 := by
    have := emb_of (s := b) (t := t) (l := 40 :: (a.data.toList ++ [41, 124, 40])) (m := [41]) (c := 41) (by rw [ht]; simp) (.inr ⟨.inr rfl, 41, [], rfl, rfl⟩)
    rwa [List.length_cons, List.length_append, ← Lib.size_eq] at this
  have d1 : t.data.toList.drop (a.size + 1) = 41 :: 124 :: 40 :: (b.data.toList ++ [41]) := by
    rw [ht, List.drop_succ_cons, Lib.size_eq, List.drop_left]
  obtain ⟨g1, g2, g3⟩ := get_of_drop d1
  obtain ⟨g4, g5, g6⟩ := get_of_drop g3
  obtain ⟨g7, g8, _⟩ := get_of_drop g6
  obtain ⟨z1, z2, _⟩ := get_of_drop (s := t) (i := 0) (c := 40) (l := a.data.toList ++ (41 :: 124 :: 40 :: (b.data.toList ++ [41]))) (by rw [List.drop_zero]; exact ht)
  have c0 : (t.get! 0).toNat = 40 := by rw [z2]; rfl
  have c1 : st1 t (0 + 1 + a.size) 41 = true := by rw [EA.fin1 41 (by omega)]; rfl
  have c2 : st1 t (0 + 1 + a.size + 1) 124 = true := by
    unfold st1
    rw [show 0 + 1 + a.size + 1 = a.size + 1 + 1 by omega, g5, decide_eq_true_eq]
    exact ⟨g4, rfl⟩
  have c3 : (t.get! (a.size + 3)).toNat = 40 := by rw [show a.size + 3 = a.size + 1 + 1 + 1 by omega, g8]; rfl
  have c4 : st1 t (a.size + 3 + 1 + b.size) 41 = true := by rw [show a.size + 3 + 1 + b.size = a.size + 4 + b.size by omega, EB.fin1 41 (by omega)]; rfl
  have bad : ∀ {p : Nat}, rowF (grpF t false 40) t false (t.size + 1) 0 [] = .bad p 91 → ∃ p, rxParse t false = (trZ, p, 91) := fun {p} h => by
    refine ⟨p, ?_⟩
    unfold rxParse chD
    rw [if_neg (by omega), chF, h]
  rcases grp_at (o := 0) EA a1 z1 c0 c1 (by omega) with e1 | ⟨p1, e1⟩
  · have r1 := row_one z1 c0 e1 (.inr (.inl c2)) (by omega)
    have h3 : a.size + 3 < t.size := by omega
    rcases grp_at (o := a.size + 3) EB b1 h3 c3 c4 (by omega) with e2 | ⟨p2, e2⟩
    · have r2 := row_one h3 c3 e2 (.inl (by omega)) (by omega)
      have hend : a.size + 3 + 1 + b.size + 1 = t.size := by omega
      rw [hend] at r2
      have h4 : chD t false 40 0 = .ok (trN 6 [x, y]) t.size := by
        unfold chD
        rw [chF, r1]
        simp only [c2, if_true]
        obtain ⟨g, hg⟩ : ∃ g, t.size = g + 1 := ⟨t.size - 1, by omega⟩
        rw [show chF (grpF t false 40) t false t.size (0 + 1 + a.size + 1 + 1) ([] ++ [x]) = chF (grpF t false 40) t false (g + 1) (a.size + 3) [x] by rw [hg, show 0 + 1 + a.size + 1 + 1 = a.size + 3 by omega]; rfl]
        rw [chF, r2]
        simp only [st1_end]
        rfl
      rw [parse_shut h4 (by omega)]
      split
      · exact .inr ⟨0, rfl⟩
      · exact .inl rfl
    · right
      have r2 := row_onebad h3 c3 e2
      refine ⟨p2, ?_⟩
      unfold rxParse chD
      rw [if_neg (by omega), chF, r1]
      simp only [c2, if_true]
      obtain ⟨g, hg⟩ : ∃ g, t.size = g + 1 := ⟨t.size - 1, by omega⟩
      rw [show chF (grpF t false 40) t false t.size (0 + 1 + a.size + 1 + 1) ([] ++ [x]) = chF (grpF t false 40) t false (g + 1) (a.size + 3) [x] by rw [hg, show 0 + 1 + a.size + 1 + 1 = a.size + 3 by omega]; rfl]
      rw [chF, r2]
  · exact .inr (bad (row_onebad z1 c0 e1))
end Go.Proofs.YtdfacbcenogplaaDoor

namespace Go.Proofs.YtdfacbcenogplaaDoor
open Go.RowKit Go.Lib

theorem rx_env {W : World} (hT : Utf8Tabs 4 5 W) (hsh : W.ShapedOpen Tryd.prog) : REnv W :=
  ⟨hT, cell_of_shapedOpen_int (g := 0) (t := 3) (zero := #[.int .i64 0]) hsh (of_decide_eq_true (by kernel_rfl)) (by kernel_rfl) rfl (by kernel_rfl) (by kernel_rfl) (by kernel_rfl)⟩
end Go.Proofs.YtdfacbcenogplaaDoor

namespace Go.Proofs.YtdfacbcenogplaaDoor
open Go.RowKit Go.Lib Go.Maps

/-- What the three searches tell. -/
theorem choice_res {On : Nat → Prop} {L1 L2 L : Nat → Nat → Prop} {o1 o2 o3 : Bool} {x y z w u v x' y' z' w' u' v' : Nat} (h1 : o1 = true → x' = x ∧ y' = y) (k1 : o2 = true → z' = z ∧ w' = w) (g1 : o3 = true → u' = u ∧ v' = v)
    (h : Told On L1 o1 x' y') (k : Told On L2 o2 z' w') (g : Told On L o3 u' v') (hL : ∀ a b, L a b ↔ L1 a b ∨ L2 a b) :
    (o1 = false → o2 = false → o3 = false) ∧ (o1 = true → o2 = false → o3 = true ∧ u = x ∧ v = y) ∧ (o1 = false → o2 = true → o3 = true ∧ u = z ∧ v = w) ∧
    (o1 = true → o2 = true → o3 = true ∧ (z < x ∨ (z = x ∧ y < w) → u = z ∧ v = w) ∧ (¬ (z < x ∨ (z = x ∧ y < w)) → u = x ∧ v = y)) := by
  obtain ⟨e, ef⟩ := h.choice k g hL
  cases o1 <;> cases o2
  · simp at e
    exact ⟨fun _ _ => e, fun q => (nomatch q), fun _ q => (nomatch q), fun q => (nomatch q)⟩
  · simp at e
    obtain ⟨q1, q2⟩ := ef e
    obtain ⟨rfl, rfl⟩ := g1 e
    obtain ⟨rfl, rfl⟩ := k1 rfl
    have hs : sooner false x' y' true z' w' = true := rfl
    rw [hs, if_pos rfl] at q1 q2
    exact ⟨fun _ q => (nomatch q), fun q => (nomatch q), fun _ _ => ⟨e, q1, q2⟩, fun q => (nomatch q)⟩
  · simp at e
    obtain ⟨q1, q2⟩ := ef e
    obtain ⟨rfl, rfl⟩ := g1 e
    obtain ⟨rfl, rfl⟩ := h1 rfl
    have hs : sooner true x' y' false z' w' = false := rfl
    rw [hs, if_neg (by decide)] at q1 q2
    exact ⟨fun q => (nomatch q), fun _ _ => ⟨e, q1, q2⟩, fun q => (nomatch q), fun _ q => (nomatch q)⟩
  · simp at e
    obtain ⟨q1, q2⟩ := ef e
    obtain ⟨rfl, rfl⟩ := g1 e
    obtain ⟨rfl, rfl⟩ := h1 rfl
    obtain ⟨rfl, rfl⟩ := k1 rfl
    refine ⟨fun q => (nomatch q), fun _ q => (nomatch q), fun q => (nomatch q), fun _ _ => ⟨e, fun c => ?_, fun c => ?_⟩⟩
    · have hs : sooner true x' y' true z' w' = true := by unfold sooner; simp; omega
      rw [hs, if_pos rfl] at q1 q2
      exact ⟨q1, q2⟩
    · have hs : sooner true x' y' true z' w' = false := by unfold sooner; simp; omega
      rw [hs, if_neg (by decide)] at q1 q2
      exact ⟨q1, q2⟩
theorem ch_app (a b : ByteArray) : (a ++ b).data.toList = a.data.toList ++ b.data.toList := by simp
set_option maxRecDepth 100000 in
set_option maxHeartbeats 4000000 in
theorem nfaChoice_any (a b s : ByteArray) (f : Int) (r1 : a.size ≤ 140737488351232) (r2 : b.size ≤ 140737488351232) {W : World} (hE : REnv W) :
    Calls Tryd.prog 3 #[.string a, .string b, .agg #[.string s, .int .i64 f]] W fun e w' => e = .returned (.bool true) ∧ Below W.heap.size W w' := by
  obtain ⟨sm, hsm⟩ : ∃ sm : Nat, a.size + b.size = sm := ⟨_, rfl⟩
  have hws : IntKind.i64.wrap ((a.size : Int) + (b.size : Int)) = (sm : Int) := by simp [IntKind.wrap, IntKind.bits, IntKind.signed]; omega
  have b0 := (Below.refl W.heap.size W).alloc (Nat.le_refl _) (.cells #[.string s, .int .i64 f] 23)
  have I0 := Blk.new W #[.string s, .int .i64 f] 23
  obtain ⟨W0, hW0⟩ : ∃ W0, W.alloc (.cells #[.string s, .int .i64 f] 23) = W0 := ⟨_, rfl⟩
  rw [hW0] at b0 I0
  have CF := Lib.hid (nfaFixed_any (hE.kept b0))
  have HB0 := Lib.hid (And.intro b0 I0)
  have HE := Lib.hid (hE.kept b0)
  clear b0 I0 hE
  go_enter Tryd.func3, Tryd.ntmps3
  go_wp2_with fail
  clear hW0
  refine CF.out.mono ?_
  rintro e W1 ⟨rfl, hb1⟩
  have hz0 := HB0.out.1.size
  have KX := Lib.hid (fun (X : World) (hb : Below W0.heap.size W0 X) => (HB0.out.2.below hb HB0.out.2.lt).two)
  have HB1 := Lib.hid hb1
  have hz1 := hb1.size
  obtain ⟨c0, c1⟩ := KX.out W1 hb1
  clear hb1 CF
  by_cases h300 : 300 < s.size
  · have d1 : decide ((300 : Int) < (s.size : Int)) = true := decide_eq_true (by omega)
    have FIN := Lib.hid (HB0.out.1.trans (HB1.out.mono hz0))
    clear h300
    go_wp2_with fail
    go_ret
    exact ⟨rfl, FIN.out⟩
  have d1 : decide ((300 : Int) < (s.size : Int)) = false := decide_eq_false (by omega)
  by_cases h500 : 500 < sm
  · have d2 : decide ((500 : Int) < (sm : Int)) = true := decide_eq_true (by omega)
    have FIN := Lib.hid (HB0.out.1.trans (HB1.out.mono hz0))
    clear h500
    go_wp2_with fail
    go_ret
    exact ⟨rfl, FIN.out⟩
  have d2 : decide ((500 : Int) < (sm : Int)) = false := decide_eq_false (by omega)
  obtain ⟨T1, hT1⟩ : ∃ S, (⟨#[40]⟩ : ByteArray) ++ a = S := ⟨_, rfl⟩
  obtain ⟨T2, hT2⟩ : ∃ S, T1 ++ (⟨#[41, 124, 40]⟩ : ByteArray) = S := ⟨_, rfl⟩
  obtain ⟨T3, hT3⟩ : ∃ S, T2 ++ b = S := ⟨_, rfl⟩
  obtain ⟨T, hT⟩ : ∃ S, T3 ++ (⟨#[41]⟩ : ByteArray) = S := ⟨_, rfl⟩
  have z1 : T1.size = a.size + 1 := by rw [← hT1, ByteArray.size_append, show (ByteArray.mk #[40]).size = 1 from rfl]; omega
  have z2 : T2.size = a.size + 4 := by rw [← hT2, ByteArray.size_append, show (ByteArray.mk #[41, 124, 40]).size = 3 from rfl]; omega
  have z3 : T3.size = sm + 4 := by rw [← hT3, ByteArray.size_append]; omega
  have z4 : T.size = sm + 5 := by rw [← hT, ByteArray.size_append, show (ByteArray.mk #[41]).size = 1 from rfl]; omega
  have lT : T.data.toList = 40 :: (a.data.toList ++ (41 :: 124 :: 40 :: (b.data.toList ++ [41]))) := by
    rw [← hT, ← hT3, ← hT2, ← hT1, ch_app, ch_app, ch_app, ch_app]
    simp
  have a1 : ∀ w, (Op.stringOp .add ⟨#[40]⟩ a).run Tryd.prog w = .ok (.string T1) w := fun w => (run_string_add_sum w _ _ (by rw [show (ByteArray.mk #[40]).size = 1 from rfl]; omega)).trans (by rw [hT1])
  have a2 : ∀ w, (Op.stringOp .add T1 ⟨#[41, 124, 40]⟩).run Tryd.prog w = .ok (.string T2) w := fun w => (run_string_add_sum w _ _ (by rw [show (ByteArray.mk #[41, 124, 40]).size = 3 from rfl]; omega)).trans (by rw [hT2])
  have a3 : ∀ w, (Op.stringOp .add T2 b).run Tryd.prog w = .ok (.string T3) w := fun w => (run_string_add_sum w _ _ (by omega)).trans (by rw [hT3])
  have a4 : ∀ w, (Op.stringOp .add T3 ⟨#[41]⟩).run Tryd.prog w = .ok (.string T) w := fun w => (run_string_add_sum w _ _ (by rw [show (ByteArray.mk #[41]).size = 1 from rfl]; omega)).trans (by rw [hT])
  have CR := Lib.hid (fun (p : ByteArray) (hp : p.size ≤ 1024) (X : World) (hb : Below W0.heap.size W0 X) => ready_any (own_any false false) hp (HE.out.kept hb))
  have HZ := Lib.hid (show a.size ≤ 1024 ∧ b.size ≤ 1024 ∧ T.size ≤ 1024 ∧ s.size ≤ 1048576 ∧ a.size + b.size ≤ 900 from ⟨by omega, by omega, by omega, by omega, by omega⟩)
  have HLT := Lib.hid lT
  clear hT1 hT2 hT3 hT z1 z2 z3 z4 lT h300 h500 hsm
  go_wp2_with fail
  refine (CR.out a HZ.out.1 W1 HB1.out).mono ?_
  rintro e W2 ⟨hb2, hr1⟩
  have HB2 := Lib.hid (HB1.out.trans (hb2.mono hz1))
  have hz2 := hb2.size
  have H12 := Lib.hid hb2
  obtain ⟨c20, c21⟩ := KX.out W2 HB2.out
  clear hb2 c0 c1
  rcases hr1 with ⟨rfl, ta, pa, ea, hpa, hea⟩ | ⟨ta, Pa, rfl, hpa, hRa⟩
  all_goals
    go_wp2_with fail
    refine (CR.out b HZ.out.2.1 W2 HB2.out).mono ?_
    rintro e W3 ⟨hb3, hr2⟩
    have HB3 := Lib.hid (HB2.out.trans (hb3.mono (by have := HB2.out.size; omega)))
    have H23 := Lib.hid hb3
    clear hb3
    rcases hr2 with ⟨rfl, tb, pb, eb, hpb, heb⟩ | ⟨tb, Pb, rfl, hpb, hRb⟩
  all_goals
    go_wp2_with fail
    refine (CR.out T HZ.out.2.2.1 W3 HB3.out).mono ?_
    rintro e W4 ⟨hb4, hr3⟩
    have HB4 := Lib.hid (HB3.out.trans (hb4.mono (by have := HB3.out.size; omega)))
    have H34 := Lib.hid hb4
    have FIN4 := Lib.hid (HB0.out.1.trans (HB4.out.mono hz0))
    obtain ⟨c40, c41⟩ := KX.out W4 HB4.out
    clear hb4
    rcases hr3 with ⟨rfl, tt, pt, et, hpt, het⟩ | ⟨tt, Pt, rfl, hpt, hRt⟩
  rotate_right 1
  ·
    have hE4 := HE.out.kept HB4.out
    obtain ⟨f1, f2, _⟩ := hE4.far
    have hRa4 := (hRa.below H23.out).below H34.out
    have hRb4 := hRb.below H34.out
    have htt : tt = trN 6 [ta, tb] := by
      rcases join_two hpa hpb HZ.out.2.2.2.2 HLT.out with q | ⟨p, q⟩
      · rw [hpt] at q
        simp only [Prod.mk.injEq, and_true] at q
        exact q
      · rw [hpt] at q
        simp only [Prod.mk.injEq] at q
        exact absurd q.2.2 (by decide)
    subst htt
    by_cases hf : f < 0 ∨ (s.size : Int) < f
    · have CO := Lib.hid (fun (P : Nat) (X : World) => find_out P s f hf X)
      clear hRa hRb hRt hRa4 hRb4 hE4 f1 f2 hpa hpb hpt hf
      go_wp2_with fail
      refine (CO.out Pa W4).mono ?_
      rintro e X5 ⟨rfl, rfl⟩
      go_wp2_with fail
      refine (CO.out Pb W4).mono ?_
      rintro e X5 ⟨rfl, rfl⟩
      go_wp2_with fail
      refine (CO.out Pt W4).mono ?_
      rintro e X5 ⟨rfl, rfl⟩
      go_wp2_with fail
      go_ret
      exact ⟨rfl, FIN4.out⟩
    · obtain ⟨n, hn⟩ : ∃ n : Nat, f = n := ⟨f.toNat, by omega⟩
      subst hn
      have hns : n ≤ s.size := by omega
      have CA := Lib.hid (find_ready hRa4 hE4.tabs f1 f2 s HZ.out.2.2.2.1 hns)
      have CB := Lib.hid (fun (X : World) (hb : Below W4.heap.size W4 X) => find_ready (hRb4.below hb) (hE4.kept hb).tabs (Nat.lt_of_lt_of_le f1 hb.size) (Nat.lt_of_lt_of_le f2 hb.size) s HZ.out.2.2.2.1 hns)
      have CT := Lib.hid (fun (X : World) (hb : Below W4.heap.size W4 X) => find_ready (hRt.below hb) (hE4.kept hb).tabs (Nat.lt_of_lt_of_le f1 hb.size) (Nat.lt_of_lt_of_le f2 hb.size) s HZ.out.2.2.2.1 hns)
      have hL := Lib.hid (fun x y => alt_own (chLow false false) (envOf s false false) (us := [ta]) (bs := [tb]) (by simp) (by simp) x y)
      clear hRa hRb hRt hRa4 hRb4 hE4 f1 f2 hpa hpb hpt hf hns
      go_wp2_with fail
      refine CA.out.mono ?_
      rintro e W5 ⟨o1, x, y, rfl, _, ⟨x', y', e1, t1⟩, hb5⟩
      have HB5 := Lib.hid hb5
      have HT1 := Lib.hid (And.intro e1 t1)
      obtain ⟨c50, c51⟩ := KX.out W5 (HB4.out.trans (hb5.mono (by have := HB4.out.size; omega)))
      clear hb5 e1 t1 CA c40 c41
      go_wp2_with fail
      refine (CB.out W5 HB5.out).mono ?_
      rintro e W6 ⟨o2, z, w, rfl, _, ⟨z', w', e2, t2⟩, hb6⟩
      have HB6 := Lib.hid (HB5.out.trans (hb6.mono HB5.out.size))
      have HT2 := Lib.hid (And.intro e2 t2)
      obtain ⟨c60, c61⟩ := KX.out W6 (HB4.out.trans (HB6.out.mono (by have := HB4.out.size; omega)))
      clear hb6 e2 t2 CB c50 c51
      go_wp2_with fail
      refine (CT.out W6 HB6.out).mono ?_
      rintro e W7 ⟨o3, u, v, rfl, _, ⟨u', v', e3, t3⟩, hb7⟩
      have HFIN := Lib.hid (FIN4.out.trans ((HB6.out.trans (hb7.mono HB6.out.size)).mono FIN4.out.size))
      have HRES := Lib.hid (choice_res HT1.out.1 HT2.out.1 e3 HT1.out.2 HT2.out.2 t3 hL.out)
      clear hb7 e3 t3 CT c60 c61 HT1 HT2 hL
      cases o1 <;> cases o2
      · have hs := HRES.out.1 rfl rfl
        subst hs
        clear HRES
        go_wp2_with fail
        go_ret
        exact ⟨rfl, HFIN.out⟩
      · obtain ⟨hs, rfl, rfl⟩ := HRES.out.2.2.1 rfl rfl
        subst hs
        clear HRES
        go_wp2_with fail
        go_ret
        exact ⟨by simp, HFIN.out⟩
      · obtain ⟨hs, rfl, rfl⟩ := HRES.out.2.1 rfl rfl
        subst hs
        clear HRES
        go_wp2_with fail
        go_ret
        exact ⟨by simp, HFIN.out⟩
      · obtain ⟨hs, h1, h2⟩ := HRES.out.2.2.2 rfl rfl
        subst hs
        by_cases k1 : z < x
        · obtain ⟨rfl, rfl⟩ := h1 (.inl k1)
          have k2 : decide ((u : Int) < (x : Int)) = true := decide_eq_true (by omega)
          clear HRES h1 h2
          go_wp2_with fail
          go_ret
          exact ⟨by simp, HFIN.out⟩
        · have k2 : decide ((z : Int) < (x : Int)) = false := decide_eq_false (by omega)
          by_cases k3 : z = x
          · subst k3
            by_cases k4 : y < w
            · obtain ⟨rfl, rfl⟩ := h1 (.inr ⟨rfl, k4⟩)
              have k5 : decide ((y : Int) < (v : Int)) = true := decide_eq_true (by omega)
              clear HRES h1 h2
              go_wp2_with fail
              go_ret
              exact ⟨by simp, HFIN.out⟩
            · obtain ⟨rfl, rfl⟩ := h2 (by omega)
              have k5 : decide ((v : Int) < (w : Int)) = false := decide_eq_false (by omega)
              clear HRES h1 h2
              go_wp2_with fail
              go_ret
              exact ⟨by simp, HFIN.out⟩
          · obtain ⟨rfl, rfl⟩ := h2 (by omega)
            have k5 : ((z : Int) == (u : Int)) = false := by simpa using (show ¬ (z : Int) = (u : Int) by omega)
            clear HRES h1 h2
            go_wp2_with fail
            go_ret
            exact ⟨by simp, HFIN.out⟩
  all_goals
    go_wp2_with fail
    go_ret
    exact ⟨rfl, FIN4.out⟩
end Go.Proofs.YtdfacbcenogplaaDoor
