/- Contracts of layer 5: a pattern that is empty. -/
import Derived.Test.YtddfigbpckhfbaaGreatDoorQpt1
import Derived.Test.YtddfigbpckhfbaaGreatDoorQpt2
import Derived.Test.YtddfigbpckhfbaaGreatDoorQpt3
import Derived.Test.YtddfigbpckhfbaaGreatDoorQpt4
import Derived.Test.YtddfigbpckhfbaaGreatDoorQpt5
import Derived.Test.YtddfigbpckhfbaaGreatDoorQpt6
import Derived.Test.YtddfigbpckhfbaaGreatDoorQpt7
import Derived.Test.YtddfigbpckhfbaaGreatDoorQpt8
import Derived.Test.YtddfigbpckhfbaaGreatDoorQpt9
import Derived.Test.YtddfigbpckhfbaaGreatDoorQpt10
import Derived.Test.YtddfigbpckhfbaaGreatDoorQpt11
import Derived.Test.YtddfigbpckhfbaaGreatDoorQpt12
import Derived.Test.YtddfigbpckhfbaaGreatDoorQpt13
import Derived.Test.YtddfigbpckhfbaaGreatDoorQpt14
namespace Go.Proofs.YtddfigbpckhfbaaGreatDoor
open Go.RowKit Go.Lib

set_option maxRecDepth 100000 in
set_option maxHeartbeats 8000000 in
theorem filled_none (g x : Nat) (w : World) (hR : Rdr w g ⟨#[]⟩ 0) :
    Calls Tryz.prog 134 #[.pointer (some ⟨g, 0, none⟩), .float .f64 x] w fun e w' => e = .returned (.tuple #[.string ⟨#[]⟩, .bool false]) ∧ Out [g] w w' := by
  have CPl := Lib.hid (fun (W : World) (r : Rdr W g ⟨#[]⟩ 0) => plain_none ⟨#[]⟩ 0 g W (Nat.le_refl _) (by decide) r (Or.inl rfl))
  have hgl := hR.lt
  have HGL := Lib.hid hgl
  have fb := Lib.fresh_isBuilder 88 5 w
  have hO := (Out.refl [g] w).alloc (.cells #[.pointer none, .slice none 0 0] 88)
  have r1 := hR.alloc (.cells #[.pointer none, .slice none 0 0] 88)
  obtain ⟨B, hB⟩ : ∃ B, w.heap.size = B := ⟨_, rfl⟩
  obtain ⟨W1, hW1⟩ : ∃ W1, w.alloc (.cells #[.pointer none, .slice none 0 0] 88) = W1 := ⟨_, rfl⟩
  rw [hW1] at fb hO r1
  rw [hB] at fb HGL
  have HB := Lib.hid hB
  have HW1 := Lib.hid hW1
  have HFB := Lib.hid fb
  have HO := Lib.hid hO
  have HR1 := Lib.hid (show Rdr W1 g ⟨#[]⟩ 0 from r1)
  clear hR fb hO r1 hB hW1 hgl
  go_enter Tryz.func134, Tryz.ntmps134
  go_wp2_with fail
  rw [HW1.out, HB.out]
  have hwB : w.heap.size ≤ B := Nat.le_of_eq HB.out
  refine (CPl.out _ HR1.out).mono ?_
  rintro e W2 ⟨rfl, r2, o2⟩
  have b2 := isB_out HFB.out o2 HGL.out
  have HO2 := Lib.hid (HO.out.trans o2)
  have HR2 := Lib.hid r2
  have hl2 : B ≤ W2.heap.size := by have := HO2.out.size; have := HB.out; omega
  have CW := Lib.hid (write_any B B [] ⟨#[]⟩ W2 b2 (by decide) hl2)
  clear r2 o2 b2 HFB HO HR1
  go_wp2_with fail
  refine CW.out.mono ?_
  rintro e W3 ⟨rfl, b3, h3⟩
  have HB3 := Lib.hid (show Lib.IsBuilder 88 5 B B [] W3 from b3)
  have HR3 := Lib.hid (show Rdr W3 g ⟨#[]⟩ 0 from HR2.out.belowB h3 HGL.out)
  have HO3 := Lib.hid (HO2.out.then_below h3 hwB)
  clear b3 h3 CW HR2 HO2 hl2
  go_wp2_with fail
  go_loopw [7] (fun wv wr => wv = .bool false ∧ Rdr wr g ⟨#[]⟩ 0 ∧ Lib.IsBuilder 88 5 B B [] wr ∧ Out [g] w wr) (fun _ _ => 0)
  case atStart => exact ⟨rfl, HR3.out, HB3.out, HO3.out⟩
  case round =>
    obtain ⟨rfl, rr, bb, oo⟩ := hrel
    have c0 := rr.cell 0
    have c1 := rr.cell 1
    have HBb := Lib.hid bb
    have HOo := Lib.hid oo
    clear rr bb oo HR3 HB3 HO3
    go_wp2_with fail
    go_quiet (fail)
    clear c0 c1
    have HOq := Lib.hid (HOo.out.drew nq)
    have bq := isB_out HBb.out ((Out.refl [g] wr).drew nq) HGL.out
    obtain ⟨Wq, hWq⟩ : ∃ Wq, wr.drewN nq = Wq := ⟨_, rfl⟩
    rw [hWq] at HOq bq ⊢
    have hlq : B ≤ Wq.heap.size := by have := HOq.out.size; have := HB.out; omega
    have CS := Lib.hid (Tryz.Builder_String_any B B [] Wq bq hlq)
    clear hWq HBb HOo bq hlq
    go_wp2_with fail
    refine CS.out.mono ?_
    rintro e W9 ⟨rfl, h9⟩
    have HO9 := Lib.hid (HOq.out.then_below h9 (Nat.le_of_eq HB.out))
    clear h9
    go_wp2_with fail
    go_ret2
    exact ⟨rfl, HO9.out⟩
set_option maxRecDepth 100000 in
set_option maxHeartbeats 8000000 in
theorem conv_empty (x : Nat) (w : World) (hb : x < 18446744073709551616) (hT : PowTab w) :
    Calls Tryz.prog 90 #[.float .f64 x, .string ⟨#[]⟩] w fun e w' => e = .returned (.string (cv6 x)) ∧ Below w.heap.size w w' := by
  unfold cv6 conv6
  cases hw : wholeB x 4846369599423283200 with
  | true =>
    rw [if_pos rfl]
    exact conv_whole x ⟨#[]⟩ w hb hw hT
  | false =>
    rw [if_neg (by decide)]
    cases ho : oddL x with
    | some n => exact conv_odd x ⟨#[]⟩ n w hb hw ho
    | none =>
      have e0 : numT false false false false false 0 6 103 x = pointT false false false false false 0 6 103 x := by
        unfold numT
        rw [if_pos ⟨by decide +kernel, by decide +kernel⟩, ho]
        show (if _ then _ else _) = _
        rw [if_neg (by decide +kernel)]
      have cN : ∀ W, PowTab W → Calls Tryz.prog 135 #[.agg #[.bool false, .bool false, .bool false, .bool false, .bool false, .int .i64 0, .int .i64 6, .int .u8 103], .float .f64 x] W fun e w' => e = .returned (.tuple #[.string ⟨(pointT false false false false false 0 6 103 x).toArray⟩, .int .i64 0]) ∧ Below W.heap.size W w' := fun W hW => by
        have := number_any false false false false false 0 6 103 x W (by omega) hb hW
        rw [e0, show numE 0 6 103 = 0 from by unfold numE; rw [if_pos ⟨by decide +kernel, by decide +kernel⟩]] at this
        exact this
      have C := Lib.hid (whole_no x w hb hw)
      have cO := fun W => boundless_any x W hb
      rw [ho] at cO
      replace cO : ∀ w : World, Calls Tryz.prog 133 #[.float .f64 x] w fun e w' => e = .returned (.tuple #[.string ⟨#[]⟩, .bool false]) ∧ w = w' := cO
      have CO := Lib.hid cO
      have HTB := Lib.hid (Lib.tabBelow_of_tabIs hT)
      have fR := Five.new w #[.string ⟨#[]⟩, .int .i64 0] 166
      have hbel := (Below.refl w.heap.size w).alloc (Nat.le_refl _) (.cells #[.string ⟨#[]⟩, .int .i64 0] 166)
      have CF := Lib.hid (filled_none w.heap.size x (w.alloc (.cells #[.string ⟨#[]⟩, .int .i64 0] 166)) fR)
      have HBEL := Lib.hid hbel
      have CN := Lib.hid cN
      show Calls _ _ _ _ fun e w' => e = .returned (.string ⟨(pointT false false false false false 0 6 103 x).toArray⟩) ∧ Below w.heap.size w w'
      obtain ⟨X, hX⟩ : ∃ X : ByteArray, (⟨(pointT false false false false false 0 6 103 x).toArray⟩ : ByteArray) = X := ⟨_, rfl⟩
      have CN := CN.out
      rw [hX] at CN ⊢
      have CN := Lib.hid CN
      clear cO hT fR hbel hw ho cN e0 hX
      go_enter Tryz.func90, Tryz.ntmps90
      go_wp2_with fail
      refine C.out.mono ?_
      rintro e w' ⟨rfl, rfl⟩
      go_wp2_with fail
      refine (CO.out _).mono ?_
      rintro e w' ⟨rfl, rfl⟩
      go_wp2_with fail
      refine CF.out.mono ?_
      rintro e w2 ⟨rfl, o2⟩
      have HBf := Lib.hid (HBEL.out.trans (o2.below (by simp) (by simp)))
      clear o2
      go_wp2_with fail
      refine (CN.out _ (HTB.out _ HBf.out)).mono ?_
      rintro e w3 ⟨rfl, h3⟩
      have HB3 := Lib.hid (HBf.out.trans (h3.mono HBf.out.size))
      clear h3
      go_wp2_with fail
      go_ret
      exact ⟨rfl, HB3.out⟩
end Go.Proofs.YtddfigbpckhfbaaGreatDoor
