/- The walk of the law PrintfJoins: without values; whatever there is. -/
import Derived.Test.YtddfigbpckhfbaaGreatDoorPPrfV
import Derived.Test.YtddfigbpckhfbaaGreatDoorQpt1
import Derived.Test.YtddfigbpckhfbaaGreatDoorQpt2
import Derived.Test.YtddfigbpckhfbaaGreatDoorQpt3
import Derived.Test.YtddfigbpckhfbaaGreatDoorQpt4
import Derived.Test.YtddfigbpckhfbaaGreatDoorQpt5
import Derived.Test.YtddfigbpckhfbaaGreatDoorQpt6
import Derived.Test.YtddfigbpckhfbaaGreatDoorQpt7
import Derived.Test.YtddfigbpckhfbaaGreatDoorQpt8
import Derived.Test.YtddfigbpckhfbaaGreatDoorQpt9
import Derived.Test.YtddfigbpckhfbaaGreatDoorQpt10
import Derived.Test.YtddfigbpckhfbaaGreatDoorQpt11
import Derived.Test.YtddfigbpckhfbaaGreatDoorQpt12
import Derived.Test.YtddfigbpckhfbaaGreatDoorQpt13
import Derived.Test.YtddfigbpckhfbaaGreatDoorQpt14
namespace Go.Proofs.YtddfigbpckhfbaaGreatDoor
open Go.RowKit Go.Lib

set_option maxRecDepth 100000 in
set_option maxHeartbeats 16000000 in
theorem printfJoins_empty (A : Option Addr) (ca : Nat) (F G : ByteArray) (w : World) (hF : F.size ≤ 1048576) (hG : G.size ≤ 1048576) (hT : PowTab w) (hU : Utf8Tabs 3 4 w) :
    Calls Tryz.prog 6 #[.string F, .string G, .slice A 0 ca] w fun e w' => e = .returned (.bool true) ∧ Below w.heap.size w w' := by
  have CF := Lib.hid (pfixed_any w hT hU)
  have hfe : OnFine [] := ⟨fun x hx => (by cases hx), fun x hx => (by cases hx), Nat.zero_le _⟩
  have HTW := fun (W : World) (h : Below w.heap.size w W) => And.intro (Lib.tabBelow_of_tabIs hT _ h) (tabs_below hU h (Nat.le_refl _))
  have hro : ∀ (W : World) (A : Option Addr), RdO W A [] := fun W A j hj => absurd hj (Nat.not_lt_zero _)
  have CSz := Lib.hid (show ∀ W, Calls Tryz.prog 25 #[.slice A 0 ca] W fun e w' => e = .returned (.int .i64 0) ∧ Below W.heap.size W w' from fun W => psize_any A ca [] W (by decide) (hro W A) (fun x hx => (by cases hx)))
  have hm : ∀ (A : Option Addr) (c2 : Nat) (W' : World), Below w.heap.size w W' → Calls Tryz.prog 26 #[.slice A 0 c2] W' fun e w' => ∃ v, e = .returned v ∧ w'.ownsRow W'.heap.size 38 3 v 0 (cellsC []) ∧ Below W'.heap.size W' w' := fun A c2 W' _ => pmade_any A c2 [] W' (by decide) (hro W' A) (fun x hx => (by cases hx))
  have M1 := Lib.hid hm
  have M2 := Lib.hid hm
  have M3 := Lib.hid hm
  have hp := fun (S : ByteArray) (hS : S.size ≤ 4611686018427387904) (v : Value) (W : World) (Q : Nat) (hv : W.ownsRow Q 38 3 v 0 (cellsC [])) (h : Below w.heap.size w W) => pj_call S [] hfe hS v W Q hv (HTW W h).1 (HTW W h).2
  have CP := Lib.hid hp
  obtain ⟨B, hB⟩ : ∃ B, w.heap.size = B := ⟨_, rfl⟩
  have HB := Lib.hid hB
  have CF := CF.out
  rw [hB] at CF ⊢
  have CF := Lib.hid CF
  clear hT hU hm hp HTW hB hro hfe
  go_enter Tryz.func6, Tryz.ntmps6
  go_wp2_with fail
  refine CF.out.mono ?_
  rintro e W1 ⟨rfl, h1⟩
  have HB1 := Lib.hid h1
  clear h1
  go_wp2_with fail
  refine (CSz.out _).mono ?_
  rintro e W2 ⟨rfl, h2⟩
  have HB2 := Lib.hid (HB1.out.trans (h2.mono (by have := HB1.out.size; have := HB.out; omega)))
  clear h2
  have w1 : IntKind.i64.wrap ((F.size : Int) + (G.size : Int)) = (F.size : Int) + (G.size : Int) := by rw [IntKind.wrap_i64]; omega
  by_cases hbig : 3000 < F.size + G.size
  · have hi : (3000 : Int) < (F.size : Int) + (G.size : Int) := by omega
    go_wp2_with fail
    go_ret
    exact ⟨rfl, HB2.out⟩
  · have hi : ¬ (3000 : Int) < (F.size : Int) + (G.size : Int) := by omega
    have hwb := Five.new W2 #[.string ⟨#[37, 46, 54, 103]⟩, .bool false] 44
    have hb3 := HB2.out.alloc (by have := HB2.out.size; have := HB.out; omega) (.cells #[.string ⟨#[37, 46, 54, 103]⟩, .bool false] 44)
    obtain ⟨W3, hW3⟩ : ∃ W3, W2.alloc (.cells #[.string ⟨#[37, 46, 54, 103]⟩, .bool false] 44) = W3 := ⟨_, rfl⟩
    obtain ⟨WB, hWB⟩ : ∃ WB, W2.heap.size = WB := ⟨_, rfl⟩
    rw [hW3] at hwb hb3
    rw [hWB] at hwb
    have HW := Lib.hid hwb
    have HB3 := Lib.hid hb3
    have HW3 := Lib.hid hW3
    have HWB := Lib.hid hWB
    clear hwb hb3 hW3 hWB
    go_wp2_with fail
    rw [HW3.out, HWB.out]
    go_loopw [8] (fun kv wr => ∃ z : Int, kv = .int .i64 z ∧ (z = 0 ∨ z = 1) ∧ Five wr WB #[.string ⟨#[37, 46, 54, 103]⟩, .bool false] 44 ∧ Below B w wr) (fun kv _ => 12 - (RowKit.intOf kv).toNat)
    case atStart => exact ⟨0, rfl, Or.inl rfl, HW.out, HB3.out⟩
    case round =>
      obtain ⟨z, rfl, hk, hway, hbel⟩ := hrel
      have HBr := Lib.hid hbel
      have HWay := Lib.hid hway
      clear hbel hway
      rcases hk with rfl | rfl
      · have hBB : B = w.heap.size := HB.out.symm
        have bt1 : Below w.heap.size w wr := hBB ▸ HBr.out
        have bd1 : Below w.heap.size w wr.drew := bt1.drew
        obtain ⟨r1, hr1⟩ : ∃ r1, sprR cv6 false F 0 [] [] = r1 := ⟨_, rfl⟩
        have HR1 := Lib.hid hr1
        have p1 := CP.out F (by omega)
        rw [show ([] : List OnD).map OnD.cl = [] from rfl, hr1] at p1
        clear hr1
        cases r1 with
        | error e1 =>
          have he1 : e1 ≠ 0 := by
            have := HR1.out
            unfold sprR at this
            rcases spr_err _ _ _ _ _ this with e | e <;> omega
          have he2 : (e1 == 0) = false := by rw [beq_eq_false_iff_ne]; exact he1
          have he3 : (e1 != 0) = true := by rw [bne_iff_ne]; exact he1
          have p1' : ∀ (v : Value) (W' : World) (Q : Nat), W'.ownsRow Q 38 3 v 0 (cellsC []) → Below w.heap.size w W' → Calls Tryz.prog 27 #[.string F, v, .agg #[.string ⟨#[37, 46, 54, 103]⟩, .bool false]] W' fun e w' => e = .returned (.tuple #[.string ⟨#[]⟩, .int .i64 e1]) ∧ Below W'.heap.size W' w' := p1
          have P1 := Lib.hid p1'
          clear p1 p1'
          rcases Classical.em (ca = 0) with rfl | hca
          all_goals
            cases A
            all_goals
              have HCW1 := Lib.hid (fun (W' : World) (h : Below wr.heap.size wr W') => (show W'.cell? ⟨WB, 0, none⟩ = some (.string ⟨#[37, 46, 54, 103]⟩) ∧ W'.cell? ⟨WB, 1, none⟩ = some (.bool false) from ⟨(HWay.out.below h).cell 0, (HWay.out.below h).cell 1⟩))
              obtain ⟨cw0, cw1⟩ := HCW1.out wr (Below.refl _ _)
              go_wp2_with fail
              go_region_held3 (fun w' => w'.cell? ⟨WB, 0, none⟩ = some (.string ⟨#[37, 46, 54, 103]⟩) ∧ w'.cell? ⟨WB, 1, none⟩ = some (.bool false))
                (first | (with_reducible exact S2) | (with_reducible exact S1) | go_keep)
                (first
                | (go_at_call 26; (with_reducible refine (M1.out _ _ _ bd1).mono ?_); rintro e X1a ⟨v1, rfl, hv1, hh1⟩; have b1a : Below wr.heap.size wr X1a := ⟨hh1.os, hh1.tape, hh1.output, hh1.size, hh1.block⟩; have S1 := HCW1.out _ b1a; have CP1 := Lib.hid (P1.out v1 X1a _ hv1 (bt1.trans (b1a.mono bt1.size))); clear hh1 hv1)
                | (go_at_call 27; (with_reducible refine CP1.out.mono ?_); rintro e X1b ⟨rfl, hg1⟩; have b1b : Below wr.heap.size wr X1b := b1a.trans ((⟨hg1.os, hg1.tape, hg1.output, hg1.size, hg1.block⟩ : Below X1a.heap.size X1a X1b).mono b1a.size); have S2 := HCW1.out _ b1b; clear hg1))
          all_goals
            have HB4 := Lib.hid (HBr.out.trans (b1b.mono (by have := HBr.out.size; have := HB.out; omega)))
            have HW4 := Lib.hid (HWay.out.below b1b)
            clear b1a b1b S1 S2 bt1 bd1 cw0 cw1
            go_wp2_with fail
            go_roundw
            case rel => exact ⟨1, by first | rfl | go_num | simp, Or.inr rfl, HW4.out, HB4.out⟩
            case measure => first | decide | (simp [RowKit.intOf])
        | ok z1 =>
          have hd3 := dec3 (F := F) (G := G) (l := []) (n := 0) (Nat.le_refl _) (fun m hm => absurd hm (Nat.not_lt_zero _)) HR1.out
          rw [List.take_zero, List.drop_nil] at hd3
          have hp2 := CP.out G (by omega)
          have hp3 := CP.out (F ++ G) (by rw [size_two]; omega)
          rw [show ([] : List OnD).map OnD.cl = [] from rfl] at hp2 hp3
          have hxs : (sprB (sprR cv6 false F 0 [] [])).size ≤ 1024 ∧ (sprB (sprR cv6 false G 0 [] [])).size ≤ 1024 := ⟨sprB_len _ _ _ _, sprB_len _ _ _ _⟩
          rw [HR1.out] at hd3 hxs
          obtain ⟨XA, hXA⟩ : ∃ X, sprB (.ok z1) = X := ⟨_, rfl⟩
          obtain ⟨X2, hX2⟩ : ∃ X, sprB (sprR cv6 false G 0 [] []) = X := ⟨_, rfl⟩
          obtain ⟨X3, hX3⟩ : ∃ X, sprB (sprR cv6 false (F ++ G) 0 [] []) = X := ⟨_, rfl⟩
          obtain ⟨E2, hE2⟩ : ∃ X, sprE (sprR cv6 false G 0 [] []) = X := ⟨_, rfl⟩
          obtain ⟨E3, hE3⟩ : ∃ X, sprE (sprR cv6 false (F ++ G) 0 [] []) = X := ⟨_, rfl⟩
          have p1' : ∀ (v : Value) (W' : World) (Q : Nat), W'.ownsRow Q 38 3 v 0 (cellsC []) → Below w.heap.size w W' → Calls Tryz.prog 27 #[.string F, v, .agg #[.string ⟨#[37, 46, 54, 103]⟩, .bool false]] W' fun e w' => e = .returned (.tuple #[.string XA, .int .i64 0]) ∧ Below W'.heap.size W' w' := by rw [← hXA]; exact p1
          have p2' : ∀ (v : Value) (W' : World) (Q : Nat), W'.ownsRow Q 38 3 v 0 (cellsC []) → Below w.heap.size w W' → Calls Tryz.prog 27 #[.string G, v, .agg #[.string ⟨#[37, 46, 54, 103]⟩, .bool false]] W' fun e w' => e = .returned (.tuple #[.string X2, .int .i64 E2]) ∧ Below W'.heap.size W' w' := by rw [← hX2, ← hE2]; exact hp2
          have p3' : ∀ (v : Value) (W' : World) (Q : Nat), W'.ownsRow Q 38 3 v 0 (cellsC []) → Below w.heap.size w W' → Calls Tryz.prog 27 #[.string (F ++ G), v, .agg #[.string ⟨#[37, 46, 54, 103]⟩, .bool false]] W' fun e w' => e = .returned (.tuple #[.string X3, .int .i64 E3]) ∧ Below W'.heap.size W' w' := by rw [← hX3, ← hE3]; exact hp3
          rw [hXA, hX2, hX3, hE2, hE3] at hd3
          rw [hXA, hX2] at hxs
          have P1 := Lib.hid p1'
          have P2 := Lib.hid p2'
          have P3 := Lib.hid p3'
          have HD3 := Lib.hid hd3
          have HXS := Lib.hid hxs
          have g8 : ¬ 9223372036854775807 < F.size + G.size := by omega
          clear p1 p1' hp2 hp3 p2' p3' hd3 hxs hXA hX2 hX3 hE2 hE3
          rcases Classical.em (ca = 0) with rfl | hca
          all_goals
            cases A
            all_goals
              have HCW1 := Lib.hid (fun (W' : World) (h : Below wr.heap.size wr W') => (show W'.cell? ⟨WB, 0, none⟩ = some (.string ⟨#[37, 46, 54, 103]⟩) ∧ W'.cell? ⟨WB, 1, none⟩ = some (.bool false) from ⟨(HWay.out.below h).cell 0, (HWay.out.below h).cell 1⟩))
              obtain ⟨cw0, cw1⟩ := HCW1.out wr (Below.refl _ _)
              go_wp2_with fail
              go_region_held3 (fun w' => w'.cell? ⟨WB, 0, none⟩ = some (.string ⟨#[37, 46, 54, 103]⟩) ∧ w'.cell? ⟨WB, 1, none⟩ = some (.bool false))
                (first | (with_reducible exact S2) | (with_reducible exact S1) | go_keep)
                (first
                | (go_at_call 26; (with_reducible refine (M1.out _ _ _ bd1).mono ?_); rintro e X1a ⟨v1, rfl, hv1, hh1⟩; have b1a : Below wr.heap.size wr X1a := ⟨hh1.os, hh1.tape, hh1.output, hh1.size, hh1.block⟩; have S1 := HCW1.out _ b1a; have CP1 := Lib.hid (P1.out v1 X1a _ hv1 (bt1.trans (b1a.mono bt1.size))); clear hh1 hv1)
                | (go_at_call 27; (with_reducible refine CP1.out.mono ?_); rintro e X1b ⟨rfl, hg1⟩; have b1b : Below wr.heap.size wr X1b := b1a.trans ((⟨hg1.os, hg1.tape, hg1.output, hg1.size, hg1.block⟩ : Below X1a.heap.size X1a X1b).mono b1a.size); have S2 := HCW1.out _ b1b; clear hg1))
              all_goals
                have bt2 : Below w.heap.size w X1b := bt1.trans (b1b.mono bt1.size)
                have HWay2 := Lib.hid (HWay.out.below b1b)
                clear b1a b1b S1 S2 cw0 cw1
                have bd2 : Below w.heap.size w X1b.drew := bt2.drew
                have HCW2 := Lib.hid (fun (W' : World) (h : Below X1b.heap.size X1b W') => (show W'.cell? ⟨WB, 0, none⟩ = some (.string ⟨#[37, 46, 54, 103]⟩) ∧ W'.cell? ⟨WB, 1, none⟩ = some (.bool false) from ⟨(HWay2.out.below h).cell 0, (HWay2.out.below h).cell 1⟩))
                obtain ⟨cw0, cw1⟩ := HCW2.out X1b (Below.refl _ _)
                go_wp2_with fail
                go_region_held3 (fun w' => w'.cell? ⟨WB, 0, none⟩ = some (.string ⟨#[37, 46, 54, 103]⟩) ∧ w'.cell? ⟨WB, 1, none⟩ = some (.bool false))
                  (first | (with_reducible exact S2) | (with_reducible exact S1) | go_keep)
                  (first
                  | (go_at_call 26; (with_reducible refine (M2.out _ _ _ bd2).mono ?_); rintro e X2a ⟨v2, rfl, hv2, hh2⟩; have b2a : Below X1b.heap.size X1b X2a := ⟨hh2.os, hh2.tape, hh2.output, hh2.size, hh2.block⟩; have S1 := HCW2.out _ b2a; have CP2 := Lib.hid (P2.out v2 X2a _ hv2 (bt2.trans (b2a.mono bt2.size))); clear hh2 hv2)
                  | (go_at_call 27; (with_reducible refine CP2.out.mono ?_); rintro e X2b ⟨rfl, hg2⟩; have b2b : Below X1b.heap.size X1b X2b := b2a.trans ((⟨hg2.os, hg2.tape, hg2.output, hg2.size, hg2.block⟩ : Below X2a.heap.size X2a X2b).mono b2a.size); have S2 := HCW2.out _ b2b; clear hg2))
              all_goals
                have bt3 : Below w.heap.size w X2b := bt2.trans (b2b.mono bt2.size)
                have HWay3 := Lib.hid (HWay2.out.below b2b)
                clear b2a b2b S1 S2 cw0 cw1
                have bd3 : Below w.heap.size w X2b.drew := bt3.drew
                have HCW3 := Lib.hid (fun (W' : World) (h : Below X2b.heap.size X2b W') => (show W'.cell? ⟨WB, 0, none⟩ = some (.string ⟨#[37, 46, 54, 103]⟩) ∧ W'.cell? ⟨WB, 1, none⟩ = some (.bool false) from ⟨(HWay3.out.below h).cell 0, (HWay3.out.below h).cell 1⟩))
                obtain ⟨cw0, cw1⟩ := HCW3.out X2b (Below.refl _ _)
                go_wp2_with fail
                go_region_held3 (fun w' => w'.cell? ⟨WB, 0, none⟩ = some (.string ⟨#[37, 46, 54, 103]⟩) ∧ w'.cell? ⟨WB, 1, none⟩ = some (.bool false))
                  (first | (with_reducible exact S2) | (with_reducible exact S1) | go_keep)
                  (first
                  | (go_at_call 26; (with_reducible refine (M3.out _ _ _ bd3).mono ?_); rintro e X3a ⟨v3, rfl, hv3, hh3⟩; have b3a : Below X2b.heap.size X2b X3a := ⟨hh3.os, hh3.tape, hh3.output, hh3.size, hh3.block⟩; have S1 := HCW3.out _ b3a; have CP3 := Lib.hid (P3.out v3 X3a _ hv3 (bt3.trans (b3a.mono bt3.size))); clear hh3 hv3)
                  | (go_at_call 27; (with_reducible refine CP3.out.mono ?_); rintro e X3b ⟨rfl, hg3⟩; have b3b : Below X2b.heap.size X2b X3b := b3a.trans ((⟨hg3.os, hg3.tape, hg3.output, hg3.size, hg3.block⟩ : Below X3a.heap.size X3a X3b).mono b3a.size); have S2 := HCW3.out _ b3b; clear hg3))
              all_goals
                have bt4 : Below w.heap.size w X3b := bt3.trans (b3b.mono bt3.size)
                have HWay4 := Lib.hid (HWay3.out.below b3b)
                clear b3a b3b S1 S2 cw0 cw1
                have HBF := Lib.hid (show Below B w X3b from HB.out ▸ bt4)
                have hsz := HXS.out
                have HBT := Lib.hid bt4
                rcases HD3.out with ⟨d1, d2⟩ | ⟨d1, d2, d3, d4⟩ | ⟨d1, d2, d3, d4⟩
                · have e1 : (E2 == 0) = false := by rw [beq_eq_false_iff_ne]; exact d1
                  have e2 : (E2 != 0) = true := by rw [bne_iff_ne]; exact d1
                  by_cases h3 : E3 = E2
                  · subst h3
                    go_wp2_with fail
                    go_ret
                    first | exact ⟨rfl, HBF.out⟩ | exact ⟨rfl, HBT.out⟩
                  · have h33 : E3 = 3 := d2.resolve_left h3
                    have f1 : (E3 == E2) = false := by rw [beq_eq_false_iff_ne]; exact h3
                    have f2 : (E3 == 3) = true := by rw [beq_iff_eq]; exact h33
                    clear d2
                    have H33 := Lib.hid h33
                    clear h33
                    go_wp2_with fail
                    go_ret
                    first | exact ⟨rfl, HBF.out⟩ | exact ⟨rfl, HBT.out⟩
                · subst d1 d3 d4
                  have hi3 : (1024 : Int) < (XA.size : Int) + (X2.size : Int) := by omega
                  have w3 : IntKind.i64.wrap ((XA.size : Int) + (X2.size : Int)) = (XA.size : Int) + (X2.size : Int) := by rw [IntKind.wrap_i64]; omega
                  go_wp2_with fail
                  go_ret
                  first | exact ⟨rfl, HBF.out⟩ | exact ⟨rfl, HBT.out⟩
                · subst d1 d3 d4
                  have hi3 : ¬ (1024 : Int) < (XA.size : Int) + (X2.size : Int) := by omega
                  have w3 : IntKind.i64.wrap ((XA.size : Int) + (X2.size : Int)) = (XA.size : Int) + (X2.size : Int) := by rw [IntKind.wrap_i64]; omega
                  have g9 : ¬ 9223372036854775807 < XA.size + X2.size := by omega
                  go_wp2_with fail
                  go_ret
                  first | exact ⟨rfl, HBF.out⟩ | exact ⟨rfl, HBT.out⟩
      · go_wp2_with fail
        go_ret
        exact ⟨rfl, HBr.out⟩
theorem printfJoins_any (A : Option Addr) (ca : Nat) (es : List OnD) (F G : ByteArray) (w : World) (hwf : ∀ x ∈ es, x.fine) (hr : RdO w A es) (hca : es.length ≤ ca) (hF : F.size ≤ 1048576) (hG : G.size ≤ 1048576) (hb : es.length ≤ 1048576 ∧ ∀ x ∈ es, x.str.size ≤ 1048576) (hT : PowTab w) (hU : Utf8Tabs 3 4 w) :
    Calls Tryz.prog 6 #[.string F, .string G, .slice A es.length ca] w fun e w' => e = .returned (.bool true) ∧ Below w.heap.size w w' := by
  cases es with
  | nil => exact printfJoins_empty A ca F G w hF hG hT hU
  | cons x t =>
    obtain ⟨b, off, rfl, -⟩ := hr 0 (by simp)
    exact printfJoins_some b off ca (x :: t) F G w ⟨hwf, hb.2, hb.1⟩ hr hca hF hG hT hU
end Go.Proofs.YtddfigbpckhfbaaGreatDoor
