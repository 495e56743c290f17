/- Several texts in one (The walk of the law FormatWide; A struct of eight one-cell fields by value, read and written (for api.Spec). No walk here). -/
import Derived.Lib.SmallJoins
import Derived.Test.YtbbbdcohkfijoaaGreatDoorQfw9
namespace Go.Proofs.YtbbbdcohkfijoaaGreatDoor
open Go.RowKit Go.Lib

theorem ba_ext_of {s : ByteArray} {l : List UInt8} (h : s.data.toList = l) : s = ⟨l.toArray⟩ := by
  apply ByteArray.ext
  apply Array.toList_inj.1
  rw [h]
theorem ext_list (s : ByteArray) {i j : Nat} (_hj : j ≤ s.size) : (s.extract i j).data.toList = (s.data.toList.take j).drop i := by
  rw [ByteArray.data_extract, Array.toList_extract]
  simp [List.extract_eq_take_drop, List.drop_take]
/-- What the law looks at, of two texts. -/
structure WideB (S T : ByteArray) (wd : Int) (m z : Bool) : Prop where
  le : T.size ≤ S.size
  len : (S.size : Int) = max (T.size : Int) wd
  head : m = true → S.extract 0 T.size = T
  tail : m = true → S.extract T.size S.size = ⟨(List.replicate (S.size - T.size) 32).toArray⟩
  back : m = false → z = true ∨ (S.extract (S.size - T.size) S.size = T ∧ S.extract 0 (S.size - T.size) = ⟨(List.replicate (S.size - T.size) 32).toArray⟩)
theorem wideB {S T : ByteArray} {wd : Int} {m z : Bool} (h : Wide S.data.toList T.data.toList wd m z) : WideB S T wd m z := by
  obtain ⟨h1, h2, h3⟩ := h
  rw [ba_len, ba_len] at h1 h2 h3
  have hle : T.size ≤ S.size := by omega
  refine ⟨hle, h1, fun hm => ?_, fun hm => ?_, fun hm => ?_⟩
  · have e := h2 hm
    apply ByteArray.ext
    apply Array.toList_inj.1
    rw [ext_list S hle, e, List.drop_zero, List.take_left' (ba_len T)]
  · have e := h2 hm
    apply ba_ext_of
    rw [ext_list S (Nat.le_refl _), List.take_of_length_le (by rw [ba_len]; exact Nat.le_refl _), e, List.drop_left' (ba_len T)]
  · rcases h3 hm with k | k
    · exact Or.inl k
    · refine Or.inr ⟨?_, ?_⟩
      · apply ByteArray.ext
        apply Array.toList_inj.1
        rw [ext_list S (Nat.le_refl _), List.take_of_length_le (by rw [ba_len]; exact Nat.le_refl _), k, List.drop_left' (List.length_replicate)]
      · apply ba_ext_of
        rw [ext_list S (by omega), k, List.drop_zero, List.take_left' (List.length_replicate)]
set_option maxRecDepth 100000 in
set_option maxHeartbeats 16000000 in
theorem formatWide_yes (m p b a z : Bool) (wd pr : Int) (c x : Nat) (w : World) (hc : c < 256) (hb : x < 18446744073709551616) (hn : numE wd pr c = 0) (hT : PowTab w) (hU : Utf8Tabs 4 5 w) :
    Calls Tryz.prog 4 #[.agg #[.bool m, .bool p, .bool b, .bool a, .bool z, .int .i64 wd, .int .i64 pr, .int .u8 (c : Int)], .int .u64 (x : Int)] w fun e w' => e = .returned (.bool true) ∧ Below w.heap.size w w' := by
  obtain ⟨hn0, hW⟩ := wide_num (m := m) (p := p) (b := b) (a := a) (z := z) (x := x) hn
  have hTl := numT_len w (m := m) (p := p) (b := b) (a := a) (z := z) hn hb
  have hwd : wd ≤ 1024 := by
    unfold numE at hn
    split at hn
    case isFalse => cases hn
    rename_i hk
    exact (chk_bd hk.1).2.1
  have cN1 := fun W hW => number_any m p b a z wd pr c x W hc hb hW
  have cN2 := fun W hW => number_any m p b a z 0 pr c x W hc hb hW
  rw [hn] at cN1
  rw [hn0] at cN2
  obtain ⟨S, hS⟩ : ∃ S : ByteArray, (⟨(numT m p b a z wd pr c x).toArray⟩ : ByteArray) = S := ⟨_, rfl⟩
  obtain ⟨T, hT2⟩ : ∃ S : ByteArray, (⟨(numT m p b a z 0 pr c x).toArray⟩ : ByteArray) = S := ⟨_, rfl⟩
  have hSl : S.data.toList = numT m p b a z wd pr c x := by rw [← hS]
  have hTl2 : T.data.toList = numT m p b a z 0 pr c x := by rw [← hT2]
  rw [← hSl, ← hTl2] at hW
  have hTs : T.size ≤ 100010 := by rw [← ba_len, hTl2]; exact hTl
  have hWB := wideB hW
  have hlen := hWB.len
  have hle := hWB.le
  have hSs : S.size ≤ 100010 := by omega
  rw [hS] at cN1
  rw [hT2] at cN2
  clear hW hTl hSl hTl2 hS hT2 hn hn0 hc hb
  have hmx : ((S.size : Int) != max (T.size : Int) wd) = false := by rw [← hlen]; simp
  have HWB := Lib.hid hWB
  have HLEN := Lib.hid hlen
  obtain ⟨k, hk⟩ : ∃ k, S.size - T.size = k := ⟨_, rfl⟩
  have hk2 : (S.size : Int) - (T.size : Int) = (k : Int) := by omega
  have HK := Lib.hid hk
  have HK2 := Lib.hid hk2
  have cB := fun W => lblanks_any k W (by omega)
  have cS := fun W => refSub_any S ((T.size : Int) + 1) ((S.size : Int) + 1) true W (by omega)
  rw [subB_tail S T.size hle] at cS
  have CN1 := Lib.hid cN1
  have CN2 := Lib.hid cN2
  have CB := Lib.hid cB
  have CS := Lib.hid cS
  clear hWB hlen hk hk2 cN1 cN2 cB cS
  have FP := Lib.hid (Five.new w #[.bool m, .bool p, .bool b, .bool a, .bool z, .int .i64 wd, .int .i64 pr, .int .u8 (c : Int)] 35)
  have HB0 := Lib.hid ((Below.refl w.heap.size w).alloc (Nat.le_refl _) (.cells #[.bool m, .bool p, .bool b, .bool a, .bool z, .int .i64 wd, .int .i64 pr, .int .u8 (c : Int)] 35))
  have HT := Lib.hid (Lib.tabBelow_of_tabIs hT)
  have HU := Lib.hid (fun (W : World) (h : Below w.heap.size w W) => tabs_below hU h (Nat.le_refl _))
  obtain ⟨W1, hW1⟩ : ∃ W1, w.alloc (.cells #[.bool m, .bool p, .bool b, .bool a, .bool z, .int .i64 wd, .int .i64 pr, .int .u8 (c : Int)] 35) = W1 := ⟨_, rfl⟩
  rw [hW1] at FP HB0
  have HW1 := Lib.hid hW1
  have hle1 : w.heap.size ≤ W1.heap.size := HB0.out.size
  have CF := Lib.hid (ffixed_any W1 (HT.out _ HB0.out) (HU.out _ HB0.out))
  obtain ⟨B, hB⟩ : ∃ B, w.heap.size = B := ⟨_, rfl⟩
  rw [hB] at FP HB0 HT hle1 ⊢
  have HB := Lib.hid hB
  have HZ := Lib.hid (fun (W : World) (h : Below B w W) => (show B ≤ W.heap.size from hB ▸ h.size))
  have hfr := run_f64from x
  clear hT hU HU hW1 hB
  go_enter Tryz.func4, Tryz.ntmps4
  go_wp2_with fail
  rw [HW1.out, HB.out]
  refine CF.out.mono ?_
  rintro e W2 ⟨rfl, h2⟩
  have FP2 := Lib.hid (FP.out.below h2)
  have HB2 := Lib.hid (HB0.out.trans (h2.mono hle1))
  clear h2
  obtain ⟨p0, p1, p2, p3, p4, p5, p6, p7⟩ := spec_cells FP2.out
  go_wp2_with fail
  clear p0 p1 p2 p3 p4 p5 p6 p7
  refine (CN1.out _ (HT.out _ HB2.out)).mono ?_
  rintro e W3 ⟨rfl, h3⟩
  have FP3 := Lib.hid (FP2.out.below h3)
  have HB3 := Lib.hid (HB2.out.trans (h3.mono (HZ.out _ HB2.out)))
  clear h3
  have hBl : B < W3.heap.size := FP3.out.lt
  have FP4 := Lib.hid (FP3.out.alloc (.cells #[.bool m, .bool p, .bool b, .bool a, .bool z, .int .i64 0, .int .i64 pr, .int .u8 (c : Int)] 35))
  have HB4 := Lib.hid (HB3.out.alloc (by omega) (.cells #[.bool m, .bool p, .bool b, .bool a, .bool z, .int .i64 0, .int .i64 pr, .int .u8 (c : Int)] 35))
  obtain ⟨p0, p1, p2, p3, p4, p5, p6, p7⟩ := spec_cells FP3.out
  go_wp2_with fail
  clear p0 p1 p2 p3 p4 p5 p6 p7
  obtain ⟨W4, hW4⟩ : ∃ W4, W3.alloc (.cells #[.bool m, .bool p, .bool b, .bool a, .bool z, .int .i64 0, .int .i64 pr, .int .u8 (c : Int)] 35) = W4 := ⟨_, rfl⟩
  rw [hW4] at FP4 HB4 ⊢
  clear hW4
  refine (CN2.out _ (HT.out _ HB4.out)).mono ?_
  rintro e W5 ⟨rfl, h5⟩
  have FP5 := Lib.hid (FP4.out.below h5)
  have HB5 := Lib.hid (HB4.out.trans (h5.mono (HZ.out _ HB4.out)))
  have hl5 := HZ.out _ HB5.out
  clear h5 hBl
  obtain ⟨p0, p1, p2, p3, p4, p5, p6, p7⟩ := spec_cells FP5.out
  obtain ⟨X, hX⟩ : ∃ X : ByteArray, (⟨(List.replicate k 32).toArray⟩ : ByteArray) = X := ⟨_, rfl⟩
  have CB := CB.out
  rw [hX] at CB
  have CB := Lib.hid CB
  cases m with
  | true =>
    have hh := HWB.out.head rfl
    have ht := HWB.out.tail rfl
    have CS := CS.out
    rw [HK.out, hX] at ht
    rw [ht] at CS
    have CS := Lib.hid CS
    have hk2 := HK2.out
    have hw1 : ¬ 9223372036854775807 < (T.size : Int) + 1 := by omega
    clear ht hX HWB HLEN HK
    go_wp2_with fail
    refine (CS.out _).mono ?_
    rintro e W6 ⟨rfl, h6⟩
    have HB6 := Lib.hid (HB5.out.trans (h6.mono hl5))
    clear h6
    go_wp2_with fail
    refine (CB.out _).mono ?_
    rintro e W7 ⟨rfl, h7⟩
    have hB7 := HB6.out.trans (h7.mono (HZ.out _ HB6.out))
    clear h7
    go_wp2_with fail
    go_ret
    exact ⟨rfl, hB7⟩
  | false =>
    cases z with
    | true =>
      clear hX HWB HLEN HK HK2
      go_wp2_with fail
      go_quiet (fail)
      go_wp2_with fail
      go_ret
      exact ⟨rfl, by first | exact HB5.out | exact ⟨HB5.out.os, HB5.out.tape, HB5.out.output, HB5.out.size, HB5.out.block⟩⟩
    | false =>
      obtain ⟨h1, h2⟩ := (HWB.out.back rfl).resolve_left (by decide)
      rw [HK.out] at h1 h2
      rw [hX] at h2
      have hk2 := HK2.out
      have hwk : IntKind.i64.wrap ((S.size : Int) - (T.size : Int)) = (k : Int) := by rw [hk2]; exact IntWalk.i64_in _ (by omega)
      have hwk2 : IntKind.i64.wrap (k : Int) = (k : Int) := IntWalk.i64_in _ (by omega)
      have hkS : (k : Int) ≤ (S.size : Int) := by omega
      have hk0 : (0 : Int) ≤ (k : Int) := by omega
      have HCW := Lib.hid (fun (W : World) (h : Below W5.heap.size W5 W) => (show W.cell? ⟨B, 4, none⟩ = some (.bool false) from (FP5.out.below h).cell 4))
      have hR := Below.refl W5.heap.size W5
      clear hX HWB HLEN HK HK2
      go_wp2_with fail
      go_region_held3 (fun w' => w'.cell? ⟨B, 4, none⟩ = some (.bool false))
        (first | (with_reducible exact S1) | go_keep)
        (first
        | (go_at_call 27; (with_reducible refine (CB.out _).mono ?_); rintro e W6 ⟨rfl, h6⟩; have b6 : Below W5.heap.size W5 W6 := ⟨h6.os, h6.tape, h6.output, h6.size, h6.block⟩; have S1 := HCW.out _ b6; clear h6))
      all_goals
        have hBf := HB5.out.trans (b6.mono hl5)
        go_wp2_with fail
        go_ret
        exact ⟨rfl, by first | exact hBf | exact ⟨hBf.os, hBf.tape, hBf.output, hBf.size, hBf.block⟩⟩
set_option maxRecDepth 100000 in
set_option maxHeartbeats 8000000 in
theorem formatWide_no (m p b a z : Bool) (wd pr : Int) (c x : Nat) (w : World) (hc : c < 256) (hb : x < 18446744073709551616) (hn : numE wd pr c ≠ 0) (hT : PowTab w) (hU : Utf8Tabs 4 5 w) :
    Calls Tryz.prog 4 #[.agg #[.bool m, .bool p, .bool b, .bool a, .bool z, .int .i64 wd, .int .i64 pr, .int .u8 (c : Int)], .int .u64 (x : Int)] w fun e w' => e = .returned (.bool true) ∧ Below w.heap.size w w' := by
  obtain ⟨e1, e2⟩ := num_no (m := m) (p := p) (b := b) (a := a) (z := z) (x := x) hn
  have cN1 := fun W hW => number_any m p b a z wd pr c x W hc hb hW
  rw [e1, e2] at cN1
  replace cN1 : ∀ W, PowTab W → Calls Tryz.prog 25 #[.agg #[.bool m, .bool p, .bool b, .bool a, .bool z, .int .i64 wd, .int .i64 pr, .int .u8 (c : Int)], .float .f64 x] W fun e w' => e = .returned (.tuple #[.string ⟨#[]⟩, .int .i64 50]) ∧ Below W.heap.size W w' := cN1
  have CN1 := Lib.hid cN1
  have FP := Lib.hid (Five.new w #[.bool m, .bool p, .bool b, .bool a, .bool z, .int .i64 wd, .int .i64 pr, .int .u8 (c : Int)] 35)
  have HB0 := Lib.hid ((Below.refl w.heap.size w).alloc (Nat.le_refl _) (.cells #[.bool m, .bool p, .bool b, .bool a, .bool z, .int .i64 wd, .int .i64 pr, .int .u8 (c : Int)] 35))
  have HT := Lib.hid (Lib.tabBelow_of_tabIs hT)
  have HU := Lib.hid (fun (W : World) (h : Below w.heap.size w W) => tabs_below hU h (Nat.le_refl _))
  obtain ⟨W1, hW1⟩ : ∃ W1, w.alloc (.cells #[.bool m, .bool p, .bool b, .bool a, .bool z, .int .i64 wd, .int .i64 pr, .int .u8 (c : Int)] 35) = W1 := ⟨_, rfl⟩
  rw [hW1] at FP HB0
  have HW1 := Lib.hid hW1
  have hle1 : w.heap.size ≤ W1.heap.size := HB0.out.size
  have CF := Lib.hid (ffixed_any W1 (HT.out _ HB0.out) (HU.out _ HB0.out))
  obtain ⟨B, hB⟩ : ∃ B, w.heap.size = B := ⟨_, rfl⟩
  rw [hB] at FP HB0 HT hle1 ⊢
  have HB := Lib.hid hB
  have HZ := Lib.hid (fun (W : World) (h : Below B w W) => (show B ≤ W.heap.size from hB ▸ h.size))
  have hfr := run_f64from x
  clear hT hU HU hW1 hB cN1 e1 e2 hn hc hb
  go_enter Tryz.func4, Tryz.ntmps4
  go_wp2_with fail
  rw [HW1.out, HB.out]
  refine CF.out.mono ?_
  rintro e W2 ⟨rfl, h2⟩
  have FP2 := Lib.hid (FP.out.below h2)
  have HB2 := Lib.hid (HB0.out.trans (h2.mono hle1))
  clear h2
  obtain ⟨p0, p1, p2, p3, p4, p5, p6, p7⟩ := spec_cells FP2.out
  go_wp2_with fail
  clear p0 p1 p2 p3 p4 p5 p6 p7
  refine (CN1.out _ (HT.out _ HB2.out)).mono ?_
  rintro e W3 ⟨rfl, h3⟩
  have hBf := HB2.out.trans (h3.mono (HZ.out _ HB2.out))
  clear h3
  go_wp2_with fail
  go_ret
  exact ⟨rfl, hBf⟩
theorem formatWide_any (m p b a z : Bool) (wd pr : Int) (c : Int) (n : Int) (w : World) (h0 : 0 ≤ n) (h1 : n ≤ 18446744073709551615) (c0 : 0 ≤ c) (c1 : c ≤ 255) (hT : PowTab w) (hU : Utf8Tabs 4 5 w) :
    Calls Tryz.prog 4 #[.agg #[.bool m, .bool p, .bool b, .bool a, .bool z, .int .i64 wd, .int .i64 pr, .int .u8 c], .int .u64 n] w fun e w' => e = .returned (.bool true) ∧ Below w.heap.size w w' := by
  obtain ⟨x, rfl⟩ : ∃ x : Nat, n = (x : Int) := ⟨n.toNat, by omega⟩
  obtain ⟨k, rfl⟩ : ∃ k : Nat, c = (k : Int) := ⟨c.toNat, by omega⟩
  by_cases h : numE wd pr k = 0
  · exact formatWide_yes m p b a z wd pr k x w (by omega) (by omega) h hT hU
  · exact formatWide_no m p b a z wd pr k x w (by omega) (by omega) h hT hU
end Go.Proofs.YtbbbdcohkfijoaaGreatDoor

namespace Go.Proofs.YtbbbdcohkfijoaaGreatDoor
open Go Go.ChangeShapes Go.WideShapes Go.RowKit Go.Deep Go.WideElems Go.Maps Go.Joins

variable {H : Type} {enc : TypeId × Value → H} {P : Program} {w : World} {base : Nat} {spare : Nat → Bool} {held : Bool}
theorem array8 {α : Type} {cs : Array α} (h : cs.size = 8) : ∃ c0 c1 c2 c3 c4 c5 c6 c7, cs = #[c0, c1, c2, c3, c4, c5, c6, c7] := by
  obtain ⟨l⟩ := cs
  match l, h with
  | [c0, c1, c2, c3, c4, c5, c6, c7], _ => exact ⟨c0, c1, c2, c3, c4, c5, c6, c7, rfl⟩
theorem trod_struct8 {t : TypeId} {f0 f1 f2 f3 f4 f5 f6 f7 : Field} {fuel : Nat} {cs : List Value} {x : DataW H × List MemPlace} (ht : P.underlying t = some (.struct #[f0, f1, f2, f3, f4, f5, f6, f7])) (h : DataW.trod enc P w base spare held fuel t cs = some x) :
    ∃ y0 y1 y2 y3 y4 y5 y6 y7 n, x = (.agg [y0.1, y1.1, y2.1, y3.1, y4.1, y5.1, y6.1, y7.1], y0.2 ++ (y1.2 ++ (y2.2 ++ (y3.2 ++ (y4.2 ++ (y5.2 ++ (y6.2 ++ y7.2))))))) ∧ cs.length = P.cellsOf t ∧ DataW.trod enc P w base spare held n f0.type ((cs.drop f0.offset).take (P.cellsOf f0.type)) = some y0 ∧ DataW.trod enc P w base spare held n f1.type ((cs.drop f1.offset).take (P.cellsOf f1.type)) = some y1 ∧ DataW.trod enc P w base spare held n f2.type ((cs.drop f2.offset).take (P.cellsOf f2.type)) = some y2 ∧ DataW.trod enc P w base spare held n f3.type ((cs.drop f3.offset).take (P.cellsOf f3.type)) = some y3 ∧ DataW.trod enc P w base spare held n f4.type ((cs.drop f4.offset).take (P.cellsOf f4.type)) = some y4 ∧ DataW.trod enc P w base spare held n f5.type ((cs.drop f5.offset).take (P.cellsOf f5.type)) = some y5 ∧ DataW.trod enc P w base spare held n f6.type ((cs.drop f6.offset).take (P.cellsOf f6.type)) = some y6 ∧ DataW.trod enc P w base spare held n f7.type ((cs.drop f7.offset).take (P.cellsOf f7.type)) = some y7 := by
  obtain ⟨xs, n, _, rfl, hl, hlen, hf⟩ := DataW.trod_struct ht h
  match xs, hlen with
  | [y0, y1, y2, y3, y4, y5, y6, y7], _ => exact ⟨y0, y1, y2, y3, y4, y5, y6, y7, n, by simp, hl, by simpa using hf 0 f0 rfl, by simpa using hf 1 f1 rfl, by simpa using hf 2 f2 rfl, by simpa using hf 3 f3 rfl, by simpa using hf 4 f4 rfl, by simpa using hf 5 f5 rfl, by simpa using hf 6 f6 rfl, by simpa using hf 7 f7 rfl⟩
theorem trod_struct8_mk {t : TypeId} {f0 f1 f2 f3 f4 f5 f6 f7 : Field} {n : Nat} {cs : List Value} {y0 y1 y2 y3 y4 y5 y6 y7 : DataW H × List MemPlace} (ht : P.underlying t = some (.struct #[f0, f1, f2, f3, f4, f5, f6, f7])) (hl : cs.length = P.cellsOf t)
    (h0 : DataW.trod enc P w base spare held n f0.type ((cs.drop f0.offset).take (P.cellsOf f0.type)) = some y0) (h1 : DataW.trod enc P w base spare held n f1.type ((cs.drop f1.offset).take (P.cellsOf f1.type)) = some y1) (h2 : DataW.trod enc P w base spare held n f2.type ((cs.drop f2.offset).take (P.cellsOf f2.type)) = some y2) (h3 : DataW.trod enc P w base spare held n f3.type ((cs.drop f3.offset).take (P.cellsOf f3.type)) = some y3) (h4 : DataW.trod enc P w base spare held n f4.type ((cs.drop f4.offset).take (P.cellsOf f4.type)) = some y4) (h5 : DataW.trod enc P w base spare held n f5.type ((cs.drop f5.offset).take (P.cellsOf f5.type)) = some y5) (h6 : DataW.trod enc P w base spare held n f6.type ((cs.drop f6.offset).take (P.cellsOf f6.type)) = some y6) (h7 : DataW.trod enc P w base spare held n f7.type ((cs.drop f7.offset).take (P.cellsOf f7.type)) = some y7) :
    DataW.trod enc P w base spare held (n + 1) t cs = some (.agg [y0.1, y1.1, y2.1, y3.1, y4.1, y5.1, y6.1, y7.1], y0.2 ++ (y1.2 ++ (y2.2 ++ (y3.2 ++ (y4.2 ++ (y5.2 ++ (y6.2 ++ y7.2))))))) := by
  have := trod_struct_mk (enc := enc) (w := w) (base := base) (spare := spare) (held := held) (n := n) (xs := [y0, y1, y2, y3, y4, y5, y6, y7]) ht hl (by simp [h0, h1, h2, h3, h4, h5, h6, h7])
  simpa using this
theorem open_agg8 {r : Reach} {b0 : Nat} {t : TypeId} {f0 f1 f2 f3 f4 f5 f6 f7 : Field} {v : Value} {d : DataW H} {p : List MemPlace} (hs : P.underlying t = some (.struct #[f0, f1, f2, f3, f4, f5, f6, f7])) (hone : oneCellFields P #[f0, f1, f2, f3, f4, f5, f6, f7] = true) (hC : P.cellsOf t = 8)
    (hv : Value.okWide P w r b0 t v) (h : DataW.Trod enc P w base spare held t v d p) :
    ∃ (v0 v1 v2 v3 v4 v5 v6 v7 : Value) (y0 y1 y2 y3 y4 y5 y6 y7 : DataW H × List MemPlace) (n : Nat), v = .agg #[v0, v1, v2, v3, v4, v5, v6, v7] ∧ d = .agg [y0.1, y1.1, y2.1, y3.1, y4.1, y5.1, y6.1, y7.1] ∧ p = y0.2 ++ (y1.2 ++ (y2.2 ++ (y3.2 ++ (y4.2 ++ (y5.2 ++ (y6.2 ++ y7.2)))))) ∧
      DataW.trod enc P w base spare held n f0.type [v0] = some y0 ∧ DataW.trod enc P w base spare held n f1.type [v1] = some y1 ∧ DataW.trod enc P w base spare held n f2.type [v2] = some y2 ∧ DataW.trod enc P w base spare held n f3.type [v3] = some y3 ∧ DataW.trod enc P w base spare held n f4.type [v4] = some y4 ∧ DataW.trod enc P w base spare held n f5.type [v5] = some y5 ∧ DataW.trod enc P w base spare held n f6.type [v6] = some y6 ∧ DataW.trod enc P w base spare held n f7.type [v7] = some y7 := by
  obtain ⟨cs, rfl, hsz⟩ := okWide_struct hs hv
  obtain ⟨c0, c1, c2, c3, c4, c5, c6, c7, rfl⟩ := array8 (hsz.trans hC)
  obtain ⟨fuel, hf⟩ := h
  obtain ⟨y0, y1, y2, y3, y4, y5, y6, y7, n, hx, _, h0, h1, h2, h3, h4, h5, h6, h7⟩ := trod_struct8 hs hf
  obtain ⟨o0, k0⟩ := hone_of hone 0 f0 rfl
  obtain ⟨o1, k1⟩ := hone_of hone 1 f1 rfl
  obtain ⟨o2, k2⟩ := hone_of hone 2 f2 rfl
  obtain ⟨o3, k3⟩ := hone_of hone 3 f3 rfl
  obtain ⟨o4, k4⟩ := hone_of hone 4 f4 rfl
  obtain ⟨o5, k5⟩ := hone_of hone 5 f5 rfl
  obtain ⟨o6, k6⟩ := hone_of hone 6 f6 rfl
  obtain ⟨o7, k7⟩ := hone_of hone 7 f7 rfl
  simp only [Prod.mk.injEq] at hx
  exact ⟨c0, c1, c2, c3, c4, c5, c6, c7, y0, y1, y2, y3, y4, y5, y6, y7, n, rfl, hx.1, hx.2, by simpa [Value.cells, o0, k0] using h0, by simpa [Value.cells, o1, k1] using h1, by simpa [Value.cells, o2, k2] using h2, by simpa [Value.cells, o3, k3] using h3, by simpa [Value.cells, o4, k4] using h4, by simpa [Value.cells, o5, k5] using h5, by simpa [Value.cells, o6, k6] using h6, by simpa [Value.cells, o7, k7] using h7⟩
theorem shut_agg8 {t : TypeId} {f0 f1 f2 f3 f4 f5 f6 f7 : Field} {v0 v1 v2 v3 v4 v5 v6 v7 : Value} {y0 y1 y2 y3 y4 y5 y6 y7 : DataW H × List MemPlace} (hs : P.underlying t = some (.struct #[f0, f1, f2, f3, f4, f5, f6, f7])) (hone : oneCellFields P #[f0, f1, f2, f3, f4, f5, f6, f7] = true) (hC : P.cellsOf t = 8)
    (t0 : ∃ n, DataW.trod enc P w base spare held n f0.type [v0] = some y0) (t1 : ∃ n, DataW.trod enc P w base spare held n f1.type [v1] = some y1) (t2 : ∃ n, DataW.trod enc P w base spare held n f2.type [v2] = some y2) (t3 : ∃ n, DataW.trod enc P w base spare held n f3.type [v3] = some y3) (t4 : ∃ n, DataW.trod enc P w base spare held n f4.type [v4] = some y4) (t5 : ∃ n, DataW.trod enc P w base spare held n f5.type [v5] = some y5) (t6 : ∃ n, DataW.trod enc P w base spare held n f6.type [v6] = some y6) (t7 : ∃ n, DataW.trod enc P w base spare held n f7.type [v7] = some y7) :
    DataW.Trod enc P w base spare held t (.agg #[v0, v1, v2, v3, v4, v5, v6, v7]) (.agg [y0.1, y1.1, y2.1, y3.1, y4.1, y5.1, y6.1, y7.1]) (y0.2 ++ (y1.2 ++ (y2.2 ++ (y3.2 ++ (y4.2 ++ (y5.2 ++ (y6.2 ++ y7.2))))))) := by
  obtain ⟨n0, t0⟩ := t0
  obtain ⟨n1, t1⟩ := t1
  obtain ⟨n2, t2⟩ := t2
  obtain ⟨n3, t3⟩ := t3
  obtain ⟨n4, t4⟩ := t4
  obtain ⟨n5, t5⟩ := t5
  obtain ⟨n6, t6⟩ := t6
  obtain ⟨n7, t7⟩ := t7
  obtain ⟨o0, k0⟩ := hone_of hone 0 f0 rfl
  obtain ⟨o1, k1⟩ := hone_of hone 1 f1 rfl
  obtain ⟨o2, k2⟩ := hone_of hone 2 f2 rfl
  obtain ⟨o3, k3⟩ := hone_of hone 3 f3 rfl
  obtain ⟨o4, k4⟩ := hone_of hone 4 f4 rfl
  obtain ⟨o5, k5⟩ := hone_of hone 5 f5 rfl
  obtain ⟨o6, k6⟩ := hone_of hone 6 f6 rfl
  obtain ⟨o7, k7⟩ := hone_of hone 7 f7 rfl
  obtain ⟨m, hm⟩ : ∃ m, m = n0 + n1 + n2 + n3 + n4 + n5 + n6 + n7 := ⟨_, rfl⟩
  have ts := trod_struct8_mk (enc := enc) (w := w) (base := base) (spare := spare) (held := held) (n := m) (cs := [v0, v1, v2, v3, v4, v5, v6, v7]) hs (by simp [hC])
    (by simpa [o0, k0] using DataW.trod_le (show n0 ≤ m by omega) t0) (by simpa [o1, k1] using DataW.trod_le (show n1 ≤ m by omega) t1) (by simpa [o2, k2] using DataW.trod_le (show n2 ≤ m by omega) t2) (by simpa [o3, k3] using DataW.trod_le (show n3 ≤ m by omega) t3) (by simpa [o4, k4] using DataW.trod_le (show n4 ≤ m by omega) t4) (by simpa [o5, k5] using DataW.trod_le (show n5 ≤ m by omega) t5) (by simpa [o6, k6] using DataW.trod_le (show n6 ≤ m by omega) t6) (by simpa [o7, k7] using DataW.trod_le (show n7 ≤ m by omega) t7)
  exact ⟨_, by simpa [Value.cells] using ts⟩
end Go.Proofs.YtbbbdcohkfijoaaGreatDoor
