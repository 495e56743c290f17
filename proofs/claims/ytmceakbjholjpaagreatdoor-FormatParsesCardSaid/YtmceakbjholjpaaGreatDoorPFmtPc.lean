/- Contracts of the definition of layer 5: Parse. -/
import Derived.Test.YtmceakbjholjpaaGreatDoorPFmtPb
import Derived.Test.YtmceakbjholjpaaGreatDoorQft1
import Derived.Test.YtmceakbjholjpaaGreatDoorQft2
import Derived.Test.YtmceakbjholjpaaGreatDoorQft3
import Derived.Test.YtmceakbjholjpaaGreatDoorQft4
import Derived.Test.YtmceakbjholjpaaGreatDoorQft5
import Derived.Test.YtmceakbjholjpaaGreatDoorQft6
import Derived.Test.YtmceakbjholjpaaGreatDoorQft7
import Derived.Test.YtmceakbjholjpaaGreatDoorQft8
import Derived.Test.YtmceakbjholjpaaGreatDoorQft9
namespace Go.Proofs.YtmceakbjholjpaaGreatDoor
open Go.RowKit Go.Lib

set_option maxRecDepth 100000 in
set_option maxHeartbeats 32000000 in
theorem rparse_in (S : ByteArray) (k : Nat) (w : World) (_h : k < S.size) (hS : S.size ≤ 4611686018427387904) (h37 : atB S k = 37) (r : Option Pc) (hr : partF S k = r) :
    Calls Tryz.prog 15 #[.string S, .int .i64 (k : Int)] w fun e w' => e = .returned (.tuple #[pcV (r.getD pc0), .int .i64 (if r.isSome = true then 0 else 50)]) ∧ Below w.heap.size w w' := by
  have CA := Lib.hid (fun (j : Nat) W => rat_nat S j W hS)
  have CF := Lib.hid (fun (j : Nat) (W : World) (hj : j ≤ S.size) => rfig_any S j W hj hS)
  have CI := Lib.hid (show ∀ (c : Nat) (W : World), c < 256 → Calls Tryz.prog 43 #[.int .u8 (c : Int), .string ⟨#[45, 43, 32, 35, 48]⟩] W fun e w' => e = .returned (.bool (isFl c)) ∧ W = w' from fun c W hc => by
    have q := rin_any ⟨#[45, 43, 32, 35, 48]⟩ c W hc (by decide)
    rw [← fl_in hc]
    exact q)
  have CJ := Lib.hid (show ∀ (c : Nat) (W : World), c < 256 → Calls Tryz.prog 43 #[.int .u8 (c : Int), .string ⟨#[100, 105, 111, 120, 88, 117, 101, 69, 102, 70, 103, 71, 99, 115, 37]⟩] W fun e w' => e = .returned (.bool (vAll.contains c.toUInt8)) ∧ W = w' from fun c W hc => rin_any _ c W hc (by decide))
  have CK := Lib.hid (fun W => (h37 ▸ rat_nat S k W hS : Calls Tryz.prog 42 #[.string S, .int .i64 (k : Int)] W fun e w' => e = .returned (.int .u8 ((37 : Nat) : Int)) ∧ W = w'))
  have CK := Lib.hid (show ∀ W, Calls Tryz.prog 42 #[.string S, .int .i64 (k : Int)] W fun e w' => e = .returned (.int .u8 37) ∧ W = w' from CK.out)
  have FB3 := Lib.hid ((Five.new w zc 26).alloc (.cells #[.bool false, .bool false, .bool false, .bool false, .bool false, .int .i64 0, .int .i64 (-1), .int .u8 0, .bool false, .bool false, .int .i64 0] 26))
  have FG3 := Lib.hid (Five.new (w.alloc (.cells zc 26)) #[.bool false, .bool false, .bool false, .bool false, .bool false, .int .i64 0, .int .i64 (-1), .int .u8 0, .bool false, .bool false, .int .i64 0] 26)
  rw [World.size_alloc] at FG3
  have HO3 := Lib.hid (((Out.refl [] w).alloc (.cells zc 26)).alloc (.cells #[.bool false, .bool false, .bool false, .bool false, .bool false, .int .i64 0, .int .i64 (-1), .int .u8 0, .bool false, .bool false, .int .i64 0] 26))
  obtain ⟨B, hB⟩ : ∃ B, w.heap.size = B := ⟨_, rfl⟩
  have HWB := Lib.hid (Nat.le_of_eq hB)
  obtain ⟨W1, hW1⟩ : ∃ W1, w.alloc (.cells zc 26) = W1 := ⟨_, rfl⟩
  obtain ⟨W2, hW2⟩ : ∃ W2, W1.alloc (.cells #[.bool false, .bool false, .bool false, .bool false, .bool false, .int .i64 0, .int .i64 (-1), .int .u8 0, .bool false, .bool false, .int .i64 0] 26) = W2 := ⟨_, rfl⟩
  obtain ⟨G, hG⟩ : ∃ G, W1.heap.size = G := ⟨_, rfl⟩
  have hBG : B + 1 = G := by rw [← hG, ← hW1, World.size_alloc, hB]
  have HWG := Lib.hid (show w.heap.size ≤ G by omega)
  have n3 : ¬ B = G := by omega
  have n4 : ¬ G = B := by omega
  rw [hW1, hW2] at FB3 FG3 HO3
  rw [hB] at FB3 FG3
  rw [hBG] at FG3
  have HB := Lib.hid hB
  have HG := Lib.hid hG
  have HW1 := Lib.hid hW1
  have HW2 := Lib.hid hW2
  have HR := Lib.hid hr
  have H37 := Lib.hid h37
  clear hB hG hW1 hW2 hBG hr h37
  go_enter Tryz.func15, Tryz.ntmps15
  go_wp2_with fail
  rw [HW1.out, HB.out]
  refine (CK.out _).mono ?_
  rintro e w' ⟨rfl, rfl⟩
  have hwr : IntKind.i64.wrap ((k : Int) + 1) = (k : Int) + 1 := by rw [IntKind.wrap_i64]; omega
  go_wp2_with fail
  clear hwr
  rw [HW2.out, HG.out]
  go_loopw [1, 7] (fun i _ wr => ∃ n : Nat, k + 1 + n ≤ S.size ∧ i = .int .i64 ((k + 1 + n : Nat) : Int) ∧ Five wr G (flR S (k + 1) n) 26 ∧ Five wr B zc 26 ∧ Out [] w wr ∧ ∀ j, j < n → isFl (atB S (k + 1 + j)) = true) (fun i _ _ => S.size - (RowKit.intOf i).toNat)
  case atStart => exact ⟨0, by omega, by go_num, FG3.out, FB3.out, HO3.out, fun j hj => by omega⟩
  case round =>
    obtain ⟨n, hn, rfl, hG, hB, hO, hall⟩ := hrel
    have FG := Lib.hid hG
    have FB := Lib.hid hB
    have HO := Lib.hid hO
    have HALL := Lib.hid hall
    clear hG hB hO hall
    obtain ⟨m, hm⟩ : ∃ m, k + 1 + n = m := ⟨_, rfl⟩
    have CM := CA.out m
    obtain ⟨y, hy⟩ : ∃ y, atB S m = y := ⟨_, rfl⟩
    have hyb : y < 256 := hy ▸ atB_256 S m
    rw [hy] at CM
    rw [hm] at hn ⊢
    have CIy := CI.out y
    by_cases hfl : isFl y = true
    · have hy0 : 0 < y := by rcases isFl_cases.1 hfl with q | q | q | q | q <;> omega
      have hlt2 : m < S.size := atB_size (by rw [hy]; exact hy0)
      have hyS : (S[m]'hlt2).toNat = y := by
        have q := hy
        unfold atB at q
        rw [dif_pos hlt2] at q
        exact q
      obtain ⟨h1, e1⟩ : ∃ v, hasN S (k + 1) 45 n = v := ⟨_, rfl⟩
      obtain ⟨h2, e2⟩ : ∃ v, hasN S (k + 1) 43 n = v := ⟨_, rfl⟩
      obtain ⟨h3, e3⟩ : ∃ v, hasN S (k + 1) 32 n = v := ⟨_, rfl⟩
      obtain ⟨h4, e4⟩ : ∃ v, hasN S (k + 1) 35 n = v := ⟨_, rfl⟩
      obtain ⟨h5, e5⟩ : ∃ v, hasN S (k + 1) 48 n = v := ⟨_, rfl⟩
      have FGn := FG.out
      unfold flR at FGn
      rw [e1, e2, e3, e4, e5] at FGn
      have hst := flR_step (S := S) (k := k + 1) (n := n) (x := y) (by rw [hm]; exact hy)
      rw [e1, e2, e3, e4, e5] at hst
      have z : ∀ c : Nat, ((y : Int) == (c : Int)) = (y == c) := fun c => by
        by_cases q : y = c
        · rw [beq_iff_eq.2 q, beq_iff_eq]; omega
        · rw [beq_eq_false_iff_ne.2 q, beq_eq_false_iff_ne]; omega
      have z1 := z 45
      have z2 := z 43
      have z3 := z 32
      have z4 := z 35
      have z5 := z 48
      obtain ⟨q1, g1⟩ : ∃ v, (y == 45) = v := ⟨_, rfl⟩
      obtain ⟨q2, g2⟩ : ∃ v, (y == 43) = v := ⟨_, rfl⟩
      obtain ⟨q3, g3⟩ : ∃ v, (y == 32) = v := ⟨_, rfl⟩
      obtain ⟨q4, g4⟩ : ∃ v, (y == 35) = v := ⟨_, rfl⟩
      obtain ⟨q5, g5⟩ : ∃ v, (y == 48) = v := ⟨_, rfl⟩
      rw [g1] at z1 hst
      rw [g2] at z2 hst
      rw [g3] at z3 hst
      rw [g4] at z4 hst
      rw [g5] at z5 hst
      replace z1 : ((y : Int) == 45) = q1 := z1
      replace z2 : ((y : Int) == 43) = q2 := z2
      replace z3 : ((y : Int) == 32) = q3 := z3
      replace z4 : ((y : Int) == 35) = q4 := z4
      replace z5 : ((y : Int) == 48) = q5 := z5
      have hwr : IntKind.i64.wrap ((m : Int) + 1) = (m : Int) + 1 := by rw [IntKind.wrap_i64]; omega
      rw [hfl] at CIy
      have CIy := Lib.hid CIy
      have CM := Lib.hid CM
      have HST := Lib.hid hst
      have HFL := Lib.hid hfl
      have HM := Lib.hid hm
      have HY := Lib.hid hy
      have HN1 := Lib.hid hn
      clear e1 e2 e3 e4 e5 g1 g2 g3 g4 g5 z hst hfl hm hy FG CF CJ CK HR H37
      obtain ⟨⟨c0, c1, c2, c3, c4, c5, c6, c7, c8, c9, c10⟩, d0, d1, d2, d3, d4, d5, d6, d7, d8, d9, d10⟩ := FGn.eleven
      clear c5 c6 c7 c8 c9 c10 d5 d6 d7 d8 d9 d10
      have FGn := Lib.hid FGn
      cases h1 <;> cases h2 <;> cases h3 <;> cases h4 <;> cases h5
      all_goals
        go_wp2_with fail
        refine (CM.out _).mono ?_
        rintro e w' ⟨rfl, rfl⟩
        go_wp2_with fail
        refine (CIy.out _ hyb).mono ?_
        rintro e w' ⟨rfl, rfl⟩
        go_wp2_with fail
        clear c0 c1 c2 c3 c4 d0 d1 d2 d3 d4
        go_roundw
        case rel =>
          refine ⟨n + 1, by have := HM.out; omega, by rw [← Nat.add_assoc, HM.out]; go_num, ?_, ((((FB.out.other (j := 0) n3).other (j := 1) n3).other (j := 2) n3).other (j := 3) n3).other (j := 4) n3, ((((HO.out.fresh (p := ⟨G, 0, none⟩) HWG.out _).fresh (p := ⟨G, 1, none⟩) HWG.out _).fresh (p := ⟨G, 2, none⟩) HWG.out _).fresh (p := ⟨G, 3, none⟩) HWG.out _).fresh (p := ⟨G, 4, none⟩) HWG.out _, fun j hj => ?_⟩
          · rw [HST.out]
            exact ((((FGn.out.set (j := 0)).set (j := 1)).set (j := 2)).set (j := 3)).set (j := 4)
          · rcases Nat.lt_or_ge j n with q | q
            · exact HALL.out j q
            · obtain rfl : j = n := by omega
              rw [HM.out, HY.out]; exact HFL.out
        case measure => simp [RowKit.intOf]; omega
    · have hf2 : isFl y = false := by rw [Bool.not_eq_true] at hfl; exact hfl
      have hE : flE S (k + 1) = m := by
        unfold flE
        rw [run_end rfl (by rw [hm]; exact hn) HALL.out (by rw [hm, hy]; exact hf2), hm]
      have hnm : m - (k + 1) = n := by omega
      rw [hf2] at CIy
      have CIy := Lib.hid CIy
      have CM := Lib.hid CM
      have HE := Lib.hid hE
      have HNM := Lib.hid hnm
      obtain ⟨b0, e0⟩ : ∃ v, hasN S (k + 1) 45 n = v := ⟨_, rfl⟩
      obtain ⟨b1, e1⟩ : ∃ v, hasN S (k + 1) 43 n = v := ⟨_, rfl⟩
      obtain ⟨b2, e2⟩ : ∃ v, hasN S (k + 1) 32 n = v := ⟨_, rfl⟩
      obtain ⟨b3, e3⟩ : ∃ v, hasN S (k + 1) 35 n = v := ⟨_, rfl⟩
      obtain ⟨b4, e4⟩ : ∃ v, hasN S (k + 1) 48 n = v := ⟨_, rfl⟩
      have FGn := FG.out
      unfold flR at FGn
      rw [e0, e1, e2, e3, e4] at FGn
      have FG4 := Lib.hid FGn
      have hP : partF S k = if vAll.contains (atB S (prAt S (amt S m).2.2).2.2).toUInt8 = true then some ⟨b0, b1, b2, b3, b4, (amt S m).1, (prAt S (amt S m).2.2).1, atB S (prAt S (amt S m).2.2).2.2, (amt S m).2.1, (prAt S (amt S m).2.2).2.1, (prAt S (amt S m).2.2).2.2 + 1⟩ else none := by
        unfold partF
        rw [H37.out, if_pos rfl, HE.out, HNM.out, e0, e1, e2, e3, e4]
      rw [HR.out] at hP
      have HP := Lib.hid hP
      have HYB := Lib.hid hyb
      have hfc := fig_cases S hn
      have CFm := Lib.hid (fun W => CF.out m W hn)
      clear e0 e1 e2 e3 e4 FGn FG hP hm hy hf2 hfl hE hnm hyb HALL HE HNM CK H37 HR
      go_wp2_with fail
      refine (CM.out _).mono ?_
      rintro e w' ⟨rfl, rfl⟩
      go_wp2_with fail
      refine (CIy.out _ HYB.out).mono ?_
      rintro e w' ⟨rfl, rfl⟩
      go_wp2_with fail
      clear CM CIy
      rcases hfc with ⟨f1, f2, -⟩ | ⟨k2, f1, f2, f3⟩
      · have CFm := CFm.out
        rw [f1] at CFm
        have CFm := Lib.hid CFm
        obtain rfl : r = none := by
          obtain ⟨u1, u2⟩ := dg_verb (atB_256 S _) f2
          have q := HP.out
          have p1 : prAt S (amt S m).2.2 = (-1, false, (amt S m).2.2) := by unfold prAt; rw [if_neg u2]
          rw [p1] at q
          simp only at q
          rw [u1, if_neg (by decide)] at q
          exact q
        clear f1 f2 HP
        refine (CFm.out _).mono ?_
        rintro e w' ⟨rfl, rfl⟩
        obtain ⟨⟨c0, c1, c2, c3, c4, c5, c6, c7, c8, c9, c10⟩, d0, d1, d2, d3, d4, d5, d6, d7, d8, d9, d10⟩ := FB.out.eleven
        go_wp2_with fail
        clear c0 c1 c2 c3 c4 c5 c6 c7 c8 c9 c10 d0 d1 d2 d3 d4 d5 d6 d7 d8 d9 d10
        obtain ⟨zz, hz⟩ := end11 (.bool false) (.bool false) (.bool false) (.bool false) (.bool false) (.int .i64 0) (.int .i64 0) (.int .u8 0) (.bool false) (.bool false) (.int .i64 0) FB.out HO.out HWB.out
        obtain ⟨⟨c0, c1, c2, c3, c4, c5, c6, c7, c8, c9, c10⟩, -⟩ := zz.eleven
        exact bodyPost_ret (v := .tuple #[.agg #[.bool false, .bool false, .bool false, .bool false, .bool false, .int .i64 0, .int .i64 0, .int .u8 0, .bool false, .bool false, .int .i64 0], .int .i64 50]) (by simp [results, Tryz.results15, go_sem, c0, c1, c2, c3, c4, c5, c6, c7, c8, c9, c10]) rfl ⟨rfl, hz.below (Nat.le_refl _) (fun x hx => by cases hx)⟩
      · obtain ⟨wd, hwd⟩ : ∃ v, (amt S m).1 = v := ⟨_, rfl⟩
        obtain ⟨sw, hsw⟩ : ∃ v, (amt S m).2.1 = v := ⟨_, rfl⟩
        have CFm := CFm.out
        rw [f1, hwd, hsw] at CFm
        have CFm := Lib.hid CFm
        have hP := HP.out
        rw [f2, hwd, hsw] at hP
        have HP := Lib.hid hP
        have F3 := Lib.hid f3
        have t0 : ¬ (k2 : Int) < 0 := by omega
        clear f1 f2 hwd hsw hP
        refine (CFm.out _).mono ?_
        rintro e w' ⟨rfl, rfl⟩
        clear CFm
        have k5 := FG4.out.cell 5
        have l5 := FG4.out.fro 5
        have k8 := FG4.out.cell 8
        have l8 := FG4.out.fro 8
        go_wp2_with fail
        clear k5 l5 k8 l8
        have FG5 := Lib.hid (show Five ((wr.setCell ⟨G, 5, none⟩ (.int .i64 wd)).setCell ⟨G, 8, none⟩ (.bool sw)) G #[.bool b0, .bool b1, .bool b2, .bool b3, .bool b4, .int .i64 wd, .int .i64 (-1), .int .u8 0, .bool sw, .bool false, .int .i64 0] 26 from ((FG4.out.set (j := 5) (u := .int .i64 wd)).set (j := 8) (u := .bool sw)))
        have FB5 := Lib.hid (show Five ((wr.setCell ⟨G, 5, none⟩ (.int .i64 wd)).setCell ⟨G, 8, none⟩ (.bool sw)) B zc 26 from ((FB.out.other (j := 5) (u := .int .i64 wd) n3).other (j := 8) (u := .bool sw) n3))
        have HO5 := Lib.hid (show Out [] w ((wr.setCell ⟨G, 5, none⟩ (.int .i64 wd)).setCell ⟨G, 8, none⟩ (.bool sw)) from ((HO.out.fresh (p := ⟨G, 5, none⟩) HWG.out (.int .i64 wd)).fresh (p := ⟨G, 8, none⟩) HWG.out (.bool sw)))
        obtain ⟨W5, hW⟩ : ∃ W5, (wr.setCell ⟨G, 5, none⟩ (.int .i64 wd)).setCell ⟨G, 8, none⟩ (.bool sw) = W5 := ⟨_, rfl⟩
        rw [hW] at FG5 FB5 HO5 ⊢
        clear hW
        by_cases hdot : atB S k2 = 46
        · have hk1 : k2 + 1 ≤ S.size := atB_size (by omega)
          have C2 := CA.out k2
          rw [hdot] at C2
          replace C2 : ∀ W, Calls Tryz.prog 42 #[.string S, .int .i64 (k2 : Int)] W fun e w' => e = .returned (.int .u8 46) ∧ W = w' := C2
          have C2 := Lib.hid C2
          have hpr : prAt S k2 = amt S (k2 + 1) := by unfold prAt; rw [if_pos hdot]
          have hP := HP.out
          rw [hpr] at hP
          have HP := Lib.hid hP
          have hwr : IntKind.i64.wrap ((k2 : Int) + 1) = ((k2 + 1 : Nat) : Int) := by rw [IntKind.wrap_i64]; omega
          have hfc := fig_cases S hk1
          have CF2 := Lib.hid (fun W => CF.out (k2 + 1) W hk1)
          clear hdot hpr hP
          refine (C2.out _).mono ?_
          rintro e w' ⟨rfl, rfl⟩
          clear C2
          go_wp2_with fail
          rcases hfc with ⟨f1, f2, -⟩ | ⟨k3, f1, f2, f3⟩
          · have CF2 := CF2.out
            rw [f1] at CF2
            have CF2 := Lib.hid CF2
            obtain rfl : r = none := by
              obtain ⟨u1, u2⟩ := dg_verb (atB_256 S _) f2
              have q := HP.out
              rw [u1, if_neg (by decide)] at q
              exact q
            clear f1 f2 HP hwr
            refine (CF2.out _).mono ?_
            rintro e w' ⟨rfl, rfl⟩
            obtain ⟨⟨c0, c1, c2, c3, c4, c5, c6, c7, c8, c9, c10⟩, d0, d1, d2, d3, d4, d5, d6, d7, d8, d9, d10⟩ := FB5.out.eleven
            go_wp2_with fail
            clear c0 c1 c2 c3 c4 c5 c6 c7 c8 c9 c10 d0 d1 d2 d3 d4 d5 d6 d7 d8 d9 d10
            obtain ⟨zz, hz⟩ := end11 (.bool false) (.bool false) (.bool false) (.bool false) (.bool false) (.int .i64 0) (.int .i64 0) (.int .u8 0) (.bool false) (.bool false) (.int .i64 0) FB5.out HO5.out HWB.out
            obtain ⟨⟨c0, c1, c2, c3, c4, c5, c6, c7, c8, c9, c10⟩, -⟩ := zz.eleven
            exact bodyPost_ret (v := .tuple #[.agg #[.bool false, .bool false, .bool false, .bool false, .bool false, .int .i64 0, .int .i64 0, .int .u8 0, .bool false, .bool false, .int .i64 0], .int .i64 50]) (by simp [results, Tryz.results15, go_sem, c0, c1, c2, c3, c4, c5, c6, c7, c8, c9, c10]) rfl ⟨rfl, hz.below (Nat.le_refl _) (fun x hx => by cases hx)⟩
          · obtain ⟨pr, hpr⟩ : ∃ v, (amt S (k2 + 1)).1 = v := ⟨_, rfl⟩
            obtain ⟨sp, hsp⟩ : ∃ v, (amt S (k2 + 1)).2.1 = v := ⟨_, rfl⟩
            have CF2 := CF2.out
            rw [f1, hpr, hsp] at CF2
            have CF2 := Lib.hid CF2
            have hP := HP.out
            rw [f2, hpr, hsp] at hP
            have HP := Lib.hid hP
            have F3 := Lib.hid f3
            have t1 : ¬ (k3 : Int) < 0 := by omega
            clear f1 f2 hpr hsp hP hwr
            refine (CF2.out _).mono ?_
            rintro e w' ⟨rfl, rfl⟩
            clear CF2
            have k6 := FG5.out.cell 6
            have l6 := FG5.out.fro 6
            have k9 := FG5.out.cell 9
            have l9 := FG5.out.fro 9
            go_wp2_with fail
            clear k6 l6 k9 l9
            have FG6 := Lib.hid (show Five ((W5.setCell ⟨G, 6, none⟩ (.int .i64 pr)).setCell ⟨G, 9, none⟩ (.bool sp)) G #[.bool b0, .bool b1, .bool b2, .bool b3, .bool b4, .int .i64 wd, .int .i64 pr, .int .u8 0, .bool sw, .bool sp, .int .i64 0] 26 from ((FG5.out.set (j := 6) (u := .int .i64 pr)).set (j := 9) (u := .bool sp)))
            have FB6 := Lib.hid (show Five ((W5.setCell ⟨G, 6, none⟩ (.int .i64 pr)).setCell ⟨G, 9, none⟩ (.bool sp)) B zc 26 from ((FB5.out.other (j := 6) (u := .int .i64 pr) n3).other (j := 9) (u := .bool sp) n3))
            have HO6 := Lib.hid (show Out [] w ((W5.setCell ⟨G, 6, none⟩ (.int .i64 pr)).setCell ⟨G, 9, none⟩ (.bool sp)) from ((HO5.out.fresh (p := ⟨G, 6, none⟩) HWG.out (.int .i64 pr)).fresh (p := ⟨G, 9, none⟩) HWG.out (.bool sp)))
            obtain ⟨W6, hW⟩ : ∃ W6, (W5.setCell ⟨G, 6, none⟩ (.int .i64 pr)).setCell ⟨G, 9, none⟩ (.bool sp) = W6 := ⟨_, rfl⟩
            rw [hW] at FG6 FB6 HO6 ⊢
            clear hW
            obtain ⟨x4, hx4⟩ : ∃ v, atB S k3 = v := ⟨_, rfl⟩
            have C4 := CA.out k3
            have hx4b : x4 < 256 := hx4 ▸ atB_256 S _
            rw [hx4] at C4
            have C4 := Lib.hid C4
            have hP := HP.out
            rw [hx4] at hP
            obtain ⟨v, hv⟩ : ∃ v, vAll.contains x4.toUInt8 = v := ⟨_, rfl⟩
            rw [hv] at hP
            have hv0 : x4 = 0 → v = false := fun q => by rw [← hv, q]; exact verb_zero
            have C5 := fun W => CJ.out x4 W hx4b
            rw [hv] at C5
            have C5 := Lib.hid C5
            have HP := Lib.hid hP
            have HV0 := Lib.hid hv0
            clear hx4 hP hv hv0 hx4b
            refine (C4.out _).mono ?_
            rintro e w' ⟨rfl, rfl⟩
            have k7 := FG6.out.cell 7
            have l7 := FG6.out.fro 7
            by_cases hx0 : x4 = 0
            · have t4 : ((x4 : Int) == 0) = true := by rw [beq_iff_eq]; omega
              obtain rfl : r = none := by
                have q := HP.out
                rw [HV0.out hx0, if_neg (by decide)] at q
                exact q
              clear hx0 HP
              have FBz := Lib.hid (FB6.out.other (j := 7) (u := .int .u8 (x4 : Int)) n3)
              have HOz := Lib.hid (HO6.out.fresh (p := ⟨G, 7, none⟩) HWG.out (.int .u8 (x4 : Int)))
              obtain ⟨⟨c0, c1, c2, c3, c4, c5, c6, c7, c8, c9, c10⟩, d0, d1, d2, d3, d4, d5, d6, d7, d8, d9, d10⟩ := FBz.out.eleven
              go_wp2_with fail
              clear c0 c1 c2 c3 c4 c5 c6 c7 c8 c9 c10 d0 d1 d2 d3 d4 d5 d6 d7 d8 d9 d10
              obtain ⟨zz, hz⟩ := end11 (.bool false) (.bool false) (.bool false) (.bool false) (.bool false) (.int .i64 0) (.int .i64 0) (.int .u8 0) (.bool false) (.bool false) (.int .i64 0) FBz.out HOz.out HWB.out
              obtain ⟨⟨c0, c1, c2, c3, c4, c5, c6, c7, c8, c9, c10⟩, -⟩ := zz.eleven
              exact bodyPost_ret (v := .tuple #[.agg #[.bool false, .bool false, .bool false, .bool false, .bool false, .int .i64 0, .int .i64 0, .int .u8 0, .bool false, .bool false, .int .i64 0], .int .i64 50]) (by simp [results, Tryz.results15, go_sem, c0, c1, c2, c3, c4, c5, c6, c7, c8, c9, c10]) rfl ⟨rfl, hz.below (Nat.le_refl _) (fun x hx => by cases hx)⟩
            · have t4 : ((x4 : Int) == 0) = false := by rw [beq_eq_false_iff_ne]; omega
              clear hx0
              go_wp2_with fail
              clear k7 l7
              have FG7 := Lib.hid (show Five (W6.setCell ⟨G, 7, none⟩ (.int .u8 (x4 : Int))) G #[.bool b0, .bool b1, .bool b2, .bool b3, .bool b4, .int .i64 wd, .int .i64 pr, .int .u8 (x4 : Int), .bool sw, .bool sp, .int .i64 0] 26 from (FG6.out.set (j := 7) (u := .int .u8 (x4 : Int))))
              have FB7 := Lib.hid (show Five (W6.setCell ⟨G, 7, none⟩ (.int .u8 (x4 : Int))) B zc 26 from (FB6.out.other (j := 7) (u := .int .u8 (x4 : Int)) n3))
              have HO7 := Lib.hid (show Out [] w (W6.setCell ⟨G, 7, none⟩ (.int .u8 (x4 : Int))) from (HO6.out.fresh (p := ⟨G, 7, none⟩) HWG.out (.int .u8 (x4 : Int))))
              obtain ⟨W7, hW⟩ : ∃ W7, W6.setCell ⟨G, 7, none⟩ (.int .u8 (x4 : Int)) = W7 := ⟨_, rfl⟩
              rw [hW] at FG7 FB7 HO7 ⊢
              clear hW
              refine (C5.out _).mono ?_
              rintro e w' ⟨rfl, rfl⟩
              cases v with
              | false =>
                obtain rfl : r = none := by
                  have q := HP.out
                  rw [if_neg (by decide)] at q
                  exact q
                clear HP
                obtain ⟨⟨c0, c1, c2, c3, c4, c5, c6, c7, c8, c9, c10⟩, d0, d1, d2, d3, d4, d5, d6, d7, d8, d9, d10⟩ := FB7.out.eleven
                go_wp2_with fail
                clear c0 c1 c2 c3 c4 c5 c6 c7 c8 c9 c10 d0 d1 d2 d3 d4 d5 d6 d7 d8 d9 d10
                obtain ⟨zz, hz⟩ := end11 (.bool false) (.bool false) (.bool false) (.bool false) (.bool false) (.int .i64 0) (.int .i64 0) (.int .u8 0) (.bool false) (.bool false) (.int .i64 0) FB7.out HO7.out HWB.out
                obtain ⟨⟨c0, c1, c2, c3, c4, c5, c6, c7, c8, c9, c10⟩, -⟩ := zz.eleven
                exact bodyPost_ret (v := .tuple #[.agg #[.bool false, .bool false, .bool false, .bool false, .bool false, .int .i64 0, .int .i64 0, .int .u8 0, .bool false, .bool false, .int .i64 0], .int .i64 50]) (by simp [results, Tryz.results15, go_sem, c0, c1, c2, c3, c4, c5, c6, c7, c8, c9, c10]) rfl ⟨rfl, hz.below (Nat.le_refl _) (fun x hx => by cases hx)⟩
              | true =>
                obtain rfl : r = some ⟨b0, b1, b2, b3, b4, wd, pr, x4, sw, sp, k3 + 1⟩ := by
                  have q := HP.out
                  rw [if_pos rfl] at q
                  exact q
                clear HP
                have hwr : IntKind.i64.wrap ((k3 : Int) + 1) = (k3 : Int) + 1 := by have := F3.out; rw [IntKind.wrap_i64]; omega
                obtain ⟨⟨i0, i1, i2, i3, i4, i5, i6, i7, i8, i9, i10⟩, -⟩ := FG7.out.eleven
                have l10 := FG7.out.fro 10
                obtain ⟨⟨c0, c1, c2, c3, c4, c5, c6, c7, c8, c9, c10⟩, d0, d1, d2, d3, d4, d5, d6, d7, d8, d9, d10⟩ := FB7.out.eleven
                go_wp2_with fail
                clear i0 i1 i2 i3 i4 i5 i6 i7 i8 i9 i10 l10 c0 c1 c2 c3 c4 c5 c6 c7 c8 c9 c10 d0 d1 d2 d3 d4 d5 d6 d7 d8 d9 d10
                have fb := FB7.out.other (j := 10) (u := .int .i64 ((k3 : Int) + 1)) n3
                have ho := HO7.out.fresh (p := ⟨G, 10, none⟩) HWG.out (.int .i64 ((k3 : Int) + 1))
                obtain ⟨zz, hz⟩ := end11 (.bool b0) (.bool b1) (.bool b2) (.bool b3) (.bool b4) (.int .i64 wd) (.int .i64 pr) (.int .u8 (x4 : Int)) (.bool sw) (.bool sp) (.int .i64 ((k3 : Int) + 1)) fb ho HWB.out
                obtain ⟨⟨c0, c1, c2, c3, c4, c5, c6, c7, c8, c9, c10⟩, -⟩ := zz.eleven
                exact bodyPost_ret (v := .tuple #[.agg #[.bool b0, .bool b1, .bool b2, .bool b3, .bool b4, .int .i64 wd, .int .i64 pr, .int .u8 (x4 : Int), .bool sw, .bool sp, .int .i64 ((k3 : Int) + 1)], .int .i64 0]) (by simp [results, Tryz.results15, go_sem, c0, c1, c2, c3, c4, c5, c6, c7, c8, c9, c10]) rfl ⟨rfl, hz.below (Nat.le_refl _) (fun x hx => by cases hx)⟩
        · have C2 := CA.out k2
          obtain ⟨y2, hy2⟩ : ∃ v, atB S k2 = v := ⟨_, rfl⟩
          have t2 : ((y2 : Int) == 46) = false := by rw [beq_eq_false_iff_ne]; omega
          rw [hy2] at C2
          have C2 := Lib.hid C2
          have hpr : prAt S k2 = (-1, false, k2) := by unfold prAt; rw [if_neg hdot]
          have hP := HP.out
          rw [hpr] at hP
          have HP := Lib.hid hP
          clear hdot hpr hP hy2
          refine (C2.out _).mono ?_
          rintro e w' ⟨rfl, rfl⟩
          clear C2
          go_wp2_with fail
          obtain ⟨x4, hx4⟩ : ∃ v, atB S k2 = v := ⟨_, rfl⟩
          have C4 := CA.out k2
          have hx4b : x4 < 256 := hx4 ▸ atB_256 S _
          rw [hx4] at C4
          have C4 := Lib.hid C4
          have hP := HP.out
          rw [hx4] at hP
          obtain ⟨v, hv⟩ : ∃ v, vAll.contains x4.toUInt8 = v := ⟨_, rfl⟩
          rw [hv] at hP
          have hv0 : x4 = 0 → v = false := fun q => by rw [← hv, q]; exact verb_zero
          have C5 := fun W => CJ.out x4 W hx4b
          rw [hv] at C5
          have C5 := Lib.hid C5
          have HP := Lib.hid hP
          have HV0 := Lib.hid hv0
          clear hx4 hP hv hv0 hx4b
          refine (C4.out _).mono ?_
          rintro e w' ⟨rfl, rfl⟩
          have k7 := FG5.out.cell 7
          have l7 := FG5.out.fro 7
          by_cases hx0 : x4 = 0
          · have t4 : ((x4 : Int) == 0) = true := by rw [beq_iff_eq]; omega
            obtain rfl : r = none := by
              have q := HP.out
              rw [HV0.out hx0, if_neg (by decide)] at q
              exact q
            clear hx0 HP
            have FBz := Lib.hid (FB5.out.other (j := 7) (u := .int .u8 (x4 : Int)) n3)
            have HOz := Lib.hid (HO5.out.fresh (p := ⟨G, 7, none⟩) HWG.out (.int .u8 (x4 : Int)))
            obtain ⟨⟨c0, c1, c2, c3, c4, c5, c6, c7, c8, c9, c10⟩, d0, d1, d2, d3, d4, d5, d6, d7, d8, d9, d10⟩ := FBz.out.eleven
            go_wp2_with fail
            clear c0 c1 c2 c3 c4 c5 c6 c7 c8 c9 c10 d0 d1 d2 d3 d4 d5 d6 d7 d8 d9 d10
            obtain ⟨zz, hz⟩ := end11 (.bool false) (.bool false) (.bool false) (.bool false) (.bool false) (.int .i64 0) (.int .i64 0) (.int .u8 0) (.bool false) (.bool false) (.int .i64 0) FBz.out HOz.out HWB.out
            obtain ⟨⟨c0, c1, c2, c3, c4, c5, c6, c7, c8, c9, c10⟩, -⟩ := zz.eleven
            exact bodyPost_ret (v := .tuple #[.agg #[.bool false, .bool false, .bool false, .bool false, .bool false, .int .i64 0, .int .i64 0, .int .u8 0, .bool false, .bool false, .int .i64 0], .int .i64 50]) (by simp [results, Tryz.results15, go_sem, c0, c1, c2, c3, c4, c5, c6, c7, c8, c9, c10]) rfl ⟨rfl, hz.below (Nat.le_refl _) (fun x hx => by cases hx)⟩
          · have t4 : ((x4 : Int) == 0) = false := by rw [beq_eq_false_iff_ne]; omega
            clear hx0
            go_wp2_with fail
            clear k7 l7
            have FG8 := Lib.hid (show Five (W5.setCell ⟨G, 7, none⟩ (.int .u8 (x4 : Int))) G #[.bool b0, .bool b1, .bool b2, .bool b3, .bool b4, .int .i64 wd, .int .i64 (-1), .int .u8 (x4 : Int), .bool sw, .bool false, .int .i64 0] 26 from (FG5.out.set (j := 7) (u := .int .u8 (x4 : Int))))
            have FB8 := Lib.hid (show Five (W5.setCell ⟨G, 7, none⟩ (.int .u8 (x4 : Int))) B zc 26 from (FB5.out.other (j := 7) (u := .int .u8 (x4 : Int)) n3))
            have HO8 := Lib.hid (show Out [] w (W5.setCell ⟨G, 7, none⟩ (.int .u8 (x4 : Int))) from (HO5.out.fresh (p := ⟨G, 7, none⟩) HWG.out (.int .u8 (x4 : Int))))
            obtain ⟨W8, hW⟩ : ∃ W8, W5.setCell ⟨G, 7, none⟩ (.int .u8 (x4 : Int)) = W8 := ⟨_, rfl⟩
            rw [hW] at FG8 FB8 HO8 ⊢
            clear hW
            refine (C5.out _).mono ?_
            rintro e w' ⟨rfl, rfl⟩
            cases v with
            | false =>
              obtain rfl : r = none := by
                have q := HP.out
                rw [if_neg (by decide)] at q
                exact q
              clear HP
              obtain ⟨⟨c0, c1, c2, c3, c4, c5, c6, c7, c8, c9, c10⟩, d0, d1, d2, d3, d4, d5, d6, d7, d8, d9, d10⟩ := FB8.out.eleven
              go_wp2_with fail
              clear c0 c1 c2 c3 c4 c5 c6 c7 c8 c9 c10 d0 d1 d2 d3 d4 d5 d6 d7 d8 d9 d10
              obtain ⟨zz, hz⟩ := end11 (.bool false) (.bool false) (.bool false) (.bool false) (.bool false) (.int .i64 0) (.int .i64 0) (.int .u8 0) (.bool false) (.bool false) (.int .i64 0) FB8.out HO8.out HWB.out
              obtain ⟨⟨c0, c1, c2, c3, c4, c5, c6, c7, c8, c9, c10⟩, -⟩ := zz.eleven
              exact bodyPost_ret (v := .tuple #[.agg #[.bool false, .bool false, .bool false, .bool false, .bool false, .int .i64 0, .int .i64 0, .int .u8 0, .bool false, .bool false, .int .i64 0], .int .i64 50]) (by simp [results, Tryz.results15, go_sem, c0, c1, c2, c3, c4, c5, c6, c7, c8, c9, c10]) rfl ⟨rfl, hz.below (Nat.le_refl _) (fun x hx => by cases hx)⟩
            | true =>
              obtain rfl : r = some ⟨b0, b1, b2, b3, b4, wd, (-1), x4, sw, false, k2 + 1⟩ := by
                have q := HP.out
                rw [if_pos rfl] at q
                exact q
              clear HP
              have hwr : IntKind.i64.wrap ((k2 : Int) + 1) = (k2 : Int) + 1 := by have := F3.out; rw [IntKind.wrap_i64]; omega
              obtain ⟨⟨i0, i1, i2, i3, i4, i5, i6, i7, i8, i9, i10⟩, -⟩ := FG8.out.eleven
              have l10 := FG8.out.fro 10
              obtain ⟨⟨c0, c1, c2, c3, c4, c5, c6, c7, c8, c9, c10⟩, d0, d1, d2, d3, d4, d5, d6, d7, d8, d9, d10⟩ := FB8.out.eleven
              go_wp2_with fail
              clear i0 i1 i2 i3 i4 i5 i6 i7 i8 i9 i10 l10 c0 c1 c2 c3 c4 c5 c6 c7 c8 c9 c10 d0 d1 d2 d3 d4 d5 d6 d7 d8 d9 d10
              have fb := FB8.out.other (j := 10) (u := .int .i64 ((k2 : Int) + 1)) n3
              have ho := HO8.out.fresh (p := ⟨G, 10, none⟩) HWG.out (.int .i64 ((k2 : Int) + 1))
              obtain ⟨zz, hz⟩ := end11 (.bool b0) (.bool b1) (.bool b2) (.bool b3) (.bool b4) (.int .i64 wd) (.int .i64 (-1)) (.int .u8 (x4 : Int)) (.bool sw) (.bool false) (.int .i64 ((k2 : Int) + 1)) fb ho HWB.out
              obtain ⟨⟨c0, c1, c2, c3, c4, c5, c6, c7, c8, c9, c10⟩, -⟩ := zz.eleven
              exact bodyPost_ret (v := .tuple #[.agg #[.bool b0, .bool b1, .bool b2, .bool b3, .bool b4, .int .i64 wd, .int .i64 (-1), .int .u8 (x4 : Int), .bool sw, .bool false, .int .i64 ((k2 : Int) + 1)], .int .i64 0]) (by simp [results, Tryz.results15, go_sem, c0, c1, c2, c3, c4, c5, c6, c7, c8, c9, c10]) rfl ⟨rfl, hz.below (Nat.le_refl _) (fun x hx => by cases hx)⟩
end Go.Proofs.YtmceakbjholjpaaGreatDoor
