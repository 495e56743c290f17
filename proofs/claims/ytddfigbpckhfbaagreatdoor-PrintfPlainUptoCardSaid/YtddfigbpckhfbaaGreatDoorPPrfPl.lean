/- The walk of the law PrintfPlain. -/
import Derived.Test.YtddfigbpckhfbaaGreatDoorPPrfU
import Derived.Test.YtddfigbpckhfbaaGreatDoorPPrfCe
import Derived.Test.YtddfigbpckhfbaaGreatDoorQpt1
import Derived.Test.YtddfigbpckhfbaaGreatDoorQpt2
import Derived.Test.YtddfigbpckhfbaaGreatDoorQpt3
import Derived.Test.YtddfigbpckhfbaaGreatDoorQpt4
import Derived.Test.YtddfigbpckhfbaaGreatDoorQpt5
import Derived.Test.YtddfigbpckhfbaaGreatDoorQpt6
import Derived.Test.YtddfigbpckhfbaaGreatDoorQpt7
import Derived.Test.YtddfigbpckhfbaaGreatDoorQpt8
import Derived.Test.YtddfigbpckhfbaaGreatDoorQpt9
import Derived.Test.YtddfigbpckhfbaaGreatDoorQpt10
import Derived.Test.YtddfigbpckhfbaaGreatDoorQpt11
import Derived.Test.YtddfigbpckhfbaaGreatDoorQpt12
import Derived.Test.YtddfigbpckhfbaaGreatDoorQpt13
import Derived.Test.YtddfigbpckhfbaaGreatDoorQpt14
namespace Go.Proofs.YtddfigbpckhfbaaGreatDoor
open Go.RowKit Go.Lib

theorem pl_vals {es : List OnD} (h : OnFine es) : Vals ⟨#[]⟩ cv6 (es.map OnD.cl) :=
  ⟨(on_vals h).fine, fun c hc _ W hW => conv_empty c.bits W ((on_vals h).fine c hc).1 hW⟩
/-- The bytes as the model's values. -/
def bV (l : List UInt8) : List Value := l.map fun x => Value.int .u8 x.toNat
theorem bV_snoc (l : List UInt8) (x : UInt8) : bV (l ++ [x]) = bV l ++ [.int .u8 x.toNat] := by unfold bV; rw [List.map_append]; rfl
/-- The first. -/
theorem pl_first (s : ByteArray) (h9 : s.size ≤ 900) (es : List OnD) (h : OnFine es) (v : Value) (W : World) (B : Nat) (hv : W.ownsRow B 38 3 v es.length (cellsC (es.map OnD.cl))) (hT : PowTab W) (hU : Utf8Tabs 3 4 W) :
    Calls Tryz.prog 27 #[.string ⟨(dblL s.data.toList).toArray⟩, v, .agg #[.string ⟨#[]⟩, .bool false]] W fun e w' => e = .returned (.tuple #[.string s, .int .i64 0]) ∧ Below W.heap.size W w' := by
  have hl := dblL_len s.data.toList
  rw [ba_len] at hl
  have hz : (⟨(dblL s.data.toList).toArray⟩ : ByteArray).size ≤ 4611686018427387904 := by
    show (dblL s.data.toList).toArray.size ≤ _
    rw [List.size_toArray]
    exact Nat.le_trans hl (by omega)
  have hr := spr_dbl (cv := cv6) (by' := false) s.data.toList (es.map OnD.cl) [] (by decide)
  rw [ba_len, List.length_nil, if_neg (by omega), List.nil_append] at hr
  have := sprintf_any ⟨(dblL s.data.toList).toArray⟩ ⟨#[]⟩ false cv6 (es.map OnD.cl) v W hz (argv_own (by rw [List.length_map]) hv) (pl_vals h) (Or.inl (on_short h W)) hT hU
  rw [hr] at this
  refine this.mono fun e w' q => ⟨?_, q.2⟩
  rw [q.1]
  show Ending.returned (.tuple #[.string ⟨s.data.toList.toArray⟩, .int .i64 0]) = _
  rw [Lib.mk_data]
theorem pl_args (W : World) (s : ByteArray) : ArgV (W.alloc (.cells #[.int .i64 2, .float .f64 0, .string s] 38)) (.slice (some ⟨W.heap.size, 0, none⟩) 1 1) [cT s] := by
  refine ⟨_, 1, rfl, Nat.le_refl _, by decide, fun j hj => ⟨W.heap.size, 0, rfl, fun i hi => ?_⟩⟩
  have F := Five.new W #[.int .i64 2, .float .f64 0, .string s] 38
  have hj1 : j < 1 := hj
  rw [Nat.zero_add, F.cell]
  match j, hj1, i, hi with
  | 0, _, 0, _ => rfl
  | 0, _, 1, _ => rfl
  | 0, _, 2, _ => rfl
/-- The second. -/
theorem pl_second (s : ByteArray) (h9 : s.size ≤ 900) (w W : World) (hb : Below w.heap.size w W) (hT : PowTab w) (hU : Utf8Tabs 3 4 w) :
    Calls Tryz.prog 27 #[.string ⟨#[37, 115]⟩, .slice (some ⟨W.heap.size, 0, none⟩) 1 1, .agg #[.string ⟨#[]⟩, .bool false]] (W.alloc (.cells #[.int .i64 2, .float .f64 0, .string s] 38)) fun e w' => e = .returned (.tuple #[.string s, .int .i64 0]) ∧ Below w.heap.size w w' := by
  have hb2 := hb.alloc hb.size (.cells #[.int .i64 2, .float .f64 0, .string s] 38)
  have hr := spr_ps (cv := fun _ => ⟨#[]⟩) (by' := false) (c := cT s) (l := []) (o := []) rfl
  rw [List.length_nil, if_neg (by show ¬ 1024 < 0 + s.size; omega), List.nil_append] at hr
  have hsh : Short (fun _ => ⟨#[]⟩) [cT s] := fun c hc => by
    obtain rfl := List.mem_singleton.1 hc
    refine ⟨?_, by show s.size ≤ _; omega⟩
    show (wrT 2 s ⟨#[]⟩).size ≤ _
    unfold wrT
    rw [if_neg (by decide), if_pos (by decide)]
    omega
  have := sprintf_any psS ⟨#[]⟩ false (fun _ => ⟨#[]⟩) [cT s] _ _ (by decide) (pl_args W s) (texts_vals ⟨#[]⟩ [s] (fun x hx => by obtain rfl := List.mem_singleton.1 hx; omega)) (Or.inl hsh) (Lib.tabBelow_of_tabIs hT _ hb2) (tabs_below hU hb2 (Nat.le_refl _))
  rw [hr] at this
  refine this.mono fun e w' q => ⟨?_, hb2.trans (q.2.mono hb2.size)⟩
  rw [q.1]
  show Ending.returned (.tuple #[.string ⟨s.data.toList.toArray⟩, .int .i64 0]) = _
  rw [Lib.mk_data]
structure PlSt (w W : World) (B : Nat) (s : ByteArray) (fv kv : Value) (k : Nat) : Prop where
  ke : kv = .int .i64 (k : Int)
  le : k ≤ s.size
  row : W.ownsRow B 5 1 fv (dblL (s.data.toList.take k)).length (bV (dblL (s.data.toList.take k)))
  bel : Below B w W
set_option maxRecDepth 100000 in
set_option maxHeartbeats 16000000 in
theorem printfPlain_any (A : Option Addr) (ca : Nat) (es : List OnD) (s : ByteArray) (w : World) (hwf : ∀ x ∈ es, x.fine) (hr : RdO w A es) (_hs : s.size ≤ 1048576) (hb : es.length ≤ 1048576 ∧ ∀ x ∈ es, x.str.size ≤ 1048576) (hT : PowTab w) (hU : Utf8Tabs 3 4 w) :
    Calls Tryz.prog 7 #[.string s, .slice A es.length ca] w fun e w' => e = .returned (.bool true) ∧ Below w.heap.size w w' := by
  have hf : OnFine es := ⟨hwf, hb.2, hb.1⟩
  have CF := Lib.hid (pfixed_any w hT hU)
  have hz := sizeN_le hf.str
  have hRW := fun (W : World) (h : Below w.heap.size w W) => hr.below (Nat.le_refl _) h
  have CSz := Lib.hid (fun (W : World) (h : Below w.heap.size w W) => psize_any A ca es W hf.len (hRW W h) hf.str)
  have CM := Lib.hid (fun (W : World) (h : Below w.heap.size w W) => pmade_any A ca es W hf.len (hRW W h) hf.wf)
  have CP := Lib.hid (fun (h9 : s.size ≤ 900) (v : Value) (W : World) (Q : Nat) (hv : W.ownsRow Q 38 3 v es.length (cellsC (es.map OnD.cl))) (h : Below w.heap.size w W) => pl_first s h9 es hf v W Q hv (Lib.tabBelow_of_tabIs hT _ h) (tabs_below hU h (Nat.le_refl _)))
  have CQ := Lib.hid (fun (h9 : s.size ≤ 900) (W : World) (h : Below w.heap.size w W) => pl_second s h9 w W h hT hU)
  have CT := Lib.hid (fun (W : World) => pfText_any s W)
  have HCV := Lib.hid (fun (W : World) (v : Value) (l : List UInt8) (h : W.ownsRow w.heap.size 5 1 v l.length (bV l)) => conv_digits W w.heap.size v l h)
  obtain ⟨i0, hi, hz0, hz1, hz2⟩ := info_parts info_u8
  have hlen := hf.len
  obtain ⟨z, hzz⟩ : ∃ z, sizeN es = z := ⟨_, rfl⟩
  have CSz := CSz.out
  rw [hzz] at hz CSz
  have CSz := Lib.hid CSz
  obtain ⟨n, hn⟩ : ∃ n, es.length = n := ⟨_, rfl⟩
  have CSz := CSz.out
  have CM := CM.out
  have CP := CP.out
  rw [hn] at hz hlen CSz CM CP ⊢
  obtain ⟨L, hL⟩ : ∃ L, cellsC (es.map OnD.cl) = L := ⟨_, rfl⟩
  rw [hL] at CM CP
  have CSz := Lib.hid CSz
  have CM := Lib.hid CM
  have CP := Lib.hid CP
  clear hT hU hr hf hRW hzz hn hL hwf hb
  go_enter Tryz.func7, Tryz.ntmps7
  go_wp2_with fail
  refine CF.out.mono ?_
  rintro e W1 ⟨rfl, h1⟩
  have HB1 := Lib.hid h1
  clear h1
  by_cases h9 : 900 < s.size
  · have hi9 : (900 : Int) < (s.size : Int) := by omega
    go_wp2_with fail
    go_ret
    exact ⟨rfl, HB1.out⟩
  have hi9 : ¬ (900 : Int) < (s.size : Int) := by omega
  have CS := Lib.hid (CSz.out W1 HB1.out)
  go_wp2_with fail
  refine CS.out.mono ?_
  rintro e W2 ⟨rfl, h2⟩
  have HB2 := Lib.hid (HB1.out.trans (h2.mono HB1.out.size))
  clear h2 CS
  by_cases hbig : 3000 < z
  · have hi3 : (3000 : Int) < (z : Int) := by omega
    go_wp2_with fail
    go_ret
    exact ⟨rfl, HB2.out⟩
  have hi3 : ¬ (3000 : Int) < (z : Int) := by omega
  go_wp2_with fail
  go_loopw [5, 6] (fun fv kv wr => ∃ (v : Value) (k : Nat), v = fv ∧ PlSt w wr w.heap.size s v kv k) (fun _ kv _ => s.size - (RowKit.intOf kv).toNat)
  case atStart => exact ⟨_, 0, rfl, rfl, Nat.zero_le _, World.ownsRow_nil _ _ _ _, HB2.out⟩
  case round =>
    obtain ⟨fv, k, rfl, rfl, hk, hown, hB⟩ := hrel
    have hsz := hB.size
    have hdl := dblL_len (s.data.toList.take k)
    rw [List.length_take, ba_len, Nat.min_eq_left hk] at hdl
    by_cases hlt : k < s.size
    · have hkl : k < s.data.toList.length := by rw [ba_len]; exact hlt
      have hstep : s.data.toList.take (k + 1) = s.data.toList.take k ++ [s[k]'hlt] := List.take_succ_eq_append_getElem hkl
      have HST := Lib.hid hstep
      clear hstep
      obtain ⟨D, hD⟩ : ∃ D, dblL (s.data.toList.take k) = D := ⟨_, rfl⟩
      rw [hD] at hown hdl
      have HD := Lib.hid hD
      clear hD
      by_cases he : (s[k]'hlt).toNat = 37
      · have ht : (((s[k]'hlt).toNat : Int) == (37 : Int)) = true := by rw [beq_iff_eq]; omega
        have h37 : (s[k]'hlt) = 37 := UInt8.toNat_inj.1 he
        have H37 := Lib.hid h37
        clear h37 he
        go_wp2_with (at_builtin; refine wpList_append_own _ rfl _ _ 56 rfl w.heap.size 5 i0 (.int .u8 0) 1 1 Tryz.underlying56 hi hz0 hz1 hz2 rfl (by decide) _ _ _ rfl (hown.alloc _) ⟨wr.heap.size, 0, none⟩ 1 1 [.int .u8 ((s[k]'hlt).toNat : Int)] rfl rfl (cell_one_new _ _ _) (by simp [Value.oneCell']) (by unfold maxLen; omega) (by omega) (by first | omega | (simp; omega)) ?_)
        intro v' w1 hown' hgrow _
        have hB1 : Below w.heap.size w w1 := (hB.alloc hsz _).grown hgrow (by simp; omega) (fun r e => (hown.lt r e).1)
        have hsz1 := hB1.size
        have HB3 := Lib.hid hB1
        clear hown hgrow hB1 hB
        go_wp2_with (at_builtin; refine wpList_append_own _ rfl _ _ 56 rfl w.heap.size 5 i0 (.int .u8 0) 1 1 Tryz.underlying56 hi hz0 hz1 hz2 rfl (by decide) _ _ _ rfl (hown'.alloc _) ⟨w1.heap.size, 0, none⟩ 1 1 [.int .u8 37] rfl rfl (cell_one_new _ _ _) (by simp [Value.oneCell']) (by unfold maxLen; omega) (by omega) (by first | omega | (simp; omega)) ?_)
        intro v2 w2 hown2 hgrow2 _
        have hB4 : Below w.heap.size w w2 := (HB3.out.alloc hsz1 _).grown hgrow2 (by simp; omega) (fun r e => (hown'.lt r e).1)
        have HB4 := Lib.hid hB4
        have HO2 : Hid (w2.ownsRow w.heap.size 5 1 v2 (dblL (s.data.toList.take (k + 1))).length (bV (dblL (s.data.toList.take (k + 1))))) := Lib.hid (by
          rw [HST.out, dblL_snoc, HD.out, if_pos H37.out, show D ++ [37, 37] = (D ++ [37]) ++ [37] by simp, bV_snoc, bV_snoc]
          rw [List.length_append, List.length_append, List.append_assoc (bV D)]
          rw [H37.out] at hown2
          exact hown2)
        clear hown' hown2 hgrow2 hB4
        go_wp2_with fail
        go_roundw
        case rel => exact ⟨v2, k + 1, rfl, by go_num, by omega, HO2.out, HB4.out⟩
        case measure => simp [RowKit.intOf]; omega
      · have ht : (((s[k]'hlt).toNat : Int) == (37 : Int)) = false := by rw [beq_eq_false_iff_ne]; omega
        have HNE := Lib.hid (show ¬ (s[k]'hlt) = 37 from fun q => he (by rw [q]; rfl))
        clear he
        go_wp2_with (at_builtin; refine wpList_append_own _ rfl _ _ 56 rfl w.heap.size 5 i0 (.int .u8 0) 1 1 Tryz.underlying56 hi hz0 hz1 hz2 rfl (by decide) _ _ _ rfl (hown.alloc _) ⟨wr.heap.size, 0, none⟩ 1 1 [.int .u8 ((s[k]'hlt).toNat : Int)] rfl rfl (cell_one_new _ _ _) (by simp [Value.oneCell']) (by unfold maxLen; omega) (by omega) (by first | omega | (simp; omega)) ?_)
        intro v' w1 hown' hgrow _
        have hB1 : Below w.heap.size w w1 := (hB.alloc hsz _).grown hgrow (by simp; omega) (fun r e => (hown.lt r e).1)
        have HB3 := Lib.hid hB1
        have HO2 : Hid (w1.ownsRow w.heap.size 5 1 v' (dblL (s.data.toList.take (k + 1))).length (bV (dblL (s.data.toList.take (k + 1))))) := Lib.hid (by
          rw [HST.out, dblL_snoc, HD.out, if_neg HNE.out, bV_snoc, List.length_append]
          exact hown')
        clear hown hown' hgrow hB1 hB
        go_wp2_with fail
        go_roundw
        case rel => exact ⟨v', k + 1, rfl, by go_num, by omega, HO2.out, HB3.out⟩
        case measure => simp [RowKit.intOf]; omega
    · have hkn : k = s.size := by omega
      have hcw : ∀ W', Below wr.heap.size wr W' → (convert 56 9 fv).run Tryz.prog W' = .ok (.string ⟨(dblL s.data.toList).toArray⟩) W' := fun W' h => by
        have := HCV.out W' fv _ (own_below hown h)
        rwa [hkn, List.take_of_length_le (by rw [ba_len]; omega)] at this
      have hks : ¬ (k : Int) < (s.size : Int) := by omega
      obtain ⟨X, hX⟩ : ∃ X : ByteArray, (⟨(dblL s.data.toList).toArray⟩ : ByteArray) = X := ⟨_, rfl⟩
      have p1 := CP.out (by omega)
      rw [hX] at hcw p1
      have HCW := Lib.hid hcw
      have hcv := HCW.out _ (Below.refl _ wr).drew
      have P1 := Lib.hid p1
      have bt1 : Below w.heap.size w wr := hB
      have bd1 : Below w.heap.size w wr.drew := hB.drew
      have h9' : s.size ≤ 900 := by omega
      clear hown hX p1 hdl hB hcw
      go_wp2_with fail
      go_region_held3 (fun W' => (convert 56 9 fv).run Tryz.prog W' = .ok (.string X) W') (first | (with_reducible exact hcv3) | (with_reducible exact hcv2) | (with_reducible exact hcv))
        (first
        | (go_at_call 26; (with_reducible refine (CM.out _ bd1).mono ?_); rintro e X1a ⟨v1, rfl, hv1, hh1⟩; have b1a : Below wr.heap.size wr X1a := ⟨hh1.os, hh1.tape, hh1.output, hh1.size, hh1.block⟩; have hcv2 := HCW.out _ b1a; have CP1 := Lib.hid (P1.out v1 X1a _ hv1 (bt1.trans (b1a.mono bt1.size))); clear hh1 hv1)
        | (go_at_call 27; (with_reducible refine CP1.out.mono ?_); rintro e X1b ⟨rfl, hg1⟩; have b1b : Below wr.heap.size wr X1b := b1a.trans ((⟨hg1.os, hg1.tape, hg1.output, hg1.size, hg1.block⟩ : Below X1a.heap.size X1a X1b).mono b1a.size); have hcv3 := HCW.out _ b1b; clear hg1))
      all_goals
        have bt2 : Below w.heap.size w X1b := bt1.trans (b1b.mono bt1.size)
        have HB2 := Lib.hid bt2
        clear b1a b1b bt2 bt1 bd1
        go_wp2_with fail
        refine (CT.out _).mono ?_
        rintro e W4 ⟨rfl, h4⟩
        have HB4 := Lib.hid (HB2.out.trans (h4.mono HB2.out.size))
        clear h4
        go_wp2_with fail
        refine (CQ.out h9' _ HB4.out).mono ?_
        rintro e W5 ⟨rfl, h5⟩
        have HB5 := Lib.hid h5
        clear h5
        go_wp2_with fail
        go_ret
        exact ⟨rfl, HB5.out⟩
end Go.Proofs.YtddfigbpckhfbaaGreatDoor
