/- Contracts of layer 13's definition: At. -/
import Derived.Test.YtelhbkfhalpniaaDoorQt1
import Derived.Test.YtelhbkfhalpniaaDoorQt2
import Derived.Test.YtelhbkfhalpniaaDoorQt3
import Derived.Test.YtelhbkfhalpniaaDoorQt4
import Derived.Test.YtelhbkfhalpniaaDoorQt5
namespace Go.Proofs.YtelhbkfhalpniaaDoor
open Go.RowKit Go.Lib Go.Joins

set_option maxRecDepth 100000 in
set_option maxHeartbeats 8000000 in
theorem rAt_any (y m d hh mm ss wk yd : Int) (w : World) : Calls Tryd.prog 19 #[dateV ⟨y, m, d, hh, mm, ss, wk, yd⟩] w fun e w' => e = .returned (.tuple #[.int .i64 (atR y m d hh mm ss).1, .int .i64 (atR y m d hh mm ss).2]) ∧ Below w.heap.size w w' := by
  have CY := Lib.hid (fun (y : Int) (W : World) => rYear_any y W)
  have CL := Lib.hid (fun (y m : Int) (W : World) (a : 1 ≤ m) (b : m ≤ 12) => rLength_any y m W a b)
  have hr1 := calFirst_new w (.cells #[.int .i64 y, .int .i64 m, .int .i64 d, .int .i64 hh, .int .i64 mm, .int .i64 ss, .int .i64 wk, .int .i64 yd] 32) (.cells #[.int .i64 y, .int .i64 m, .int .i64 d, .int .i64 hh, .int .i64 mm, .int .i64 ss] 3)
  have hr2 := calSecond_new w (.cells #[.int .i64 y, .int .i64 m, .int .i64 d, .int .i64 hh, .int .i64 mm, .int .i64 ss, .int .i64 wk, .int .i64 yd] 32) (.cells #[.int .i64 y, .int .i64 m, .int .i64 d, .int .i64 hh, .int .i64 mm, .int .i64 ss] 3)
  have hbb := below_alloc2 w (.cells #[.int .i64 y, .int .i64 m, .int .i64 d, .int .i64 hh, .int .i64 mm, .int .i64 ss, .int .i64 wk, .int .i64 yd] 32) (.cells #[.int .i64 y, .int .i64 m, .int .i64 d, .int .i64 hh, .int .i64 mm, .int .i64 ss] 3)
  have HR1 := Lib.hid hr1
  have HR2 := Lib.hid hr2
  have HBB := Lib.hid hbb
  clear hr1 hr2 hbb
  unfold dateV
  go_enter Tryd.func19, Tryd.ntmps19
  go_wp2_with fail
  obtain ⟨W2, hW2⟩ : ∃ W2, (w.alloc (.cells #[.int .i64 y, .int .i64 m, .int .i64 d, .int .i64 hh, .int .i64 mm, .int .i64 ss, .int .i64 wk, .int .i64 yd] 32)).alloc (.cells #[.int .i64 y, .int .i64 m, .int .i64 d, .int .i64 hh, .int .i64 mm, .int .i64 ss] 3) = W2 := ⟨_, rfl⟩
  have hr1 := HR1.out
  have hr2 := HR2.out
  have hbb := HBB.out
  rw [hW2] at hr1 hr2 hbb ⊢
  obtain ⟨B, hB⟩ : ∃ B, w.heap.size = B := ⟨_, rfl⟩
  rw [hB] at hr1 hr2 ⊢
  have c0 := cell_of_block hr1 0
  have c1 := cell_of_block hr1 1
  have c2 := cell_of_block hr1 2
  have c3 := cell_of_block hr1 3
  have c4 := cell_of_block hr1 4
  have c5 := cell_of_block hr1 5
  have s0 := cell_of_block hr2 0
  have s1 := cell_of_block hr2 1
  have s2 := cell_of_block hr2 2
  have s3 := cell_of_block hr2 3
  have s4 := cell_of_block hr2 4
  have s5 := cell_of_block hr2 5
  replace c0 : W2.cell? ⟨B, 0, none⟩ = some (.int .i64 y) := c0
  replace s0 : W2.cell? ⟨B + 1, 0, none⟩ = some (.int .i64 y) := s0
  replace c1 : W2.cell? ⟨B, 1, none⟩ = some (.int .i64 m) := c1
  replace s1 : W2.cell? ⟨B + 1, 1, none⟩ = some (.int .i64 m) := s1
  replace c2 : W2.cell? ⟨B, 2, none⟩ = some (.int .i64 d) := c2
  replace s2 : W2.cell? ⟨B + 1, 2, none⟩ = some (.int .i64 d) := s2
  replace c3 : W2.cell? ⟨B, 3, none⟩ = some (.int .i64 hh) := c3
  replace s3 : W2.cell? ⟨B + 1, 3, none⟩ = some (.int .i64 hh) := s3
  replace c4 : W2.cell? ⟨B, 4, none⟩ = some (.int .i64 mm) := c4
  replace s4 : W2.cell? ⟨B + 1, 4, none⟩ = some (.int .i64 mm) := s4
  replace c5 : W2.cell? ⟨B, 5, none⟩ = some (.int .i64 ss) := c5
  replace s5 : W2.cell? ⟨B + 1, 5, none⟩ = some (.int .i64 ss) := s5
  have HB2 := Lib.hid hbb
  clear HR1 HR2 HBB hr1 hr2 hbb hW2 hB
  go_loop [5] (fun v => ∃ k : Nat, v = .int .i64 (k : Int) ∧ k ≤ 6 ∧ firstIn k y m d hh mm ss) (fun v => 6 - (RowKit.intOf v).toNat)
  case atStart => exact ⟨0, rfl, by omega, by unfold firstIn; omega⟩
  case round =>
    obtain ⟨k, rfl, hk, hf⟩ := hrel
    by_cases h6 : k = 6
    · subst h6
      obtain ⟨f0, f1, f2, f3, f4, f5⟩ := hf
      have f0 := f0 (by decide)
      have f1 := f1 (by decide)
      have f2 := f2 (by decide)
      have f3 := f3 (by decide)
      have f4 := f4 (by decide)
      have f5 := f5 (by decide)
      have HI := Lib.hid (show inB y ∧ inB m ∧ inB d ∧ inB hh ∧ inB mm ∧ inB ss from ⟨f0, f1, f2, f3, f4, f5⟩)
      obtain ⟨y1, y2⟩ := f0
      obtain ⟨m1, m2⟩ := f1
      obtain ⟨d1, d2⟩ := f2
      obtain ⟨h1, h2⟩ := f3
      obtain ⟨n1, n2⟩ := f4
      obtain ⟨t1, t2⟩ := f5
      obtain ⟨yy, hyy⟩ : ∃ yy, y + (m - 1) / 12 = yy := ⟨_, rfl⟩
      obtain ⟨mo, hmo⟩ : ∃ mo, m - 12 * ((m - 1) / 12) = mo := ⟨_, rfl⟩
      have hmb : 1 ≤ mo ∧ mo ≤ 12 := by omega
      have hyb : -1100000 ≤ yy ∧ yy ≤ 1100000 := by omega
      obtain ⟨T, hT⟩ : ∃ T, atT y m d hh mm ss = T := ⟨_, rfl⟩
      have RT := Lib.hid (show atR y m d hh mm ss = if -62135596800 ≤ T ∧ T ≤ 253402300799 then (T, 0) else (0, 1) from by unfold atR; rw [if_pos HI.out, hT])
      unfold atT at hT
      rw [hyy, hmo] at hT
      obtain ⟨l, hl⟩ : ∃ l, leapZ yy = l := ⟨_, rfl⟩
      rw [hl] at hT
      have HLL := Lib.hid hl
      have HT := Lib.hid hT
      have HYY := Lib.hid hyy
      have HMO := Lib.hid hmo
      clear HI hT hl hyy hmo
      go_wp2_with fail
      go_quiet (fail)
      obtain ⟨W3, hW3⟩ : ∃ W3, W2.drewN nq = W3 := ⟨_, rfl⟩
      have e2 : W3.cell? ⟨B, 2, none⟩ = some (.int .i64 d) := by rw [← hW3]; exact c2
      have e3 : W3.cell? ⟨B, 3, none⟩ = some (.int .i64 hh) := by rw [← hW3]; exact c3
      have e4 : W3.cell? ⟨B, 4, none⟩ = some (.int .i64 mm) := by rw [← hW3]; exact c4
      have e5 : W3.cell? ⟨B, 5, none⟩ = some (.int .i64 ss) := by rw [← hW3]; exact c5
      have HB3 := Lib.hid (show Below w.heap.size w W3 from by rw [← hW3]; exact HB2.out.trans (below_draws _ _ _))
      rw [hW3]
      clear c0 c1 c2 c3 c4 c5 s0 s1 s2 s3 s4 s5 hW3
      go_wp2_with fail
      go_loop [6, 7] (fun yv mv => ∃ Y M : Int, yv = .int .i64 Y ∧ mv = .int .i64 M ∧ Y + (M - 1) / 12 = yy ∧ M - 12 * ((M - 1) / 12) = mo ∧ -1000000 ≤ M ∧ M ≤ 1000000) (fun _ mv => (RowKit.intOf mv).toNat)
      case atStart => exact ⟨y, m, rfl, rfl, HYY.out, HMO.out, m1, m2⟩
      case round =>
        obtain ⟨Y, M, rfl, rfl, r1, r2, r3, r4⟩ := hrel
        have hYb : -1300000 ≤ Y ∧ Y ≤ 1300000 := by omega
        by_cases hlt : 12 < M
        · have R1 := Lib.hid (show Y + 1 + (M - 12 - 1) / 12 = yy by omega)
          have R2 := Lib.hid (show M - 12 - 12 * ((M - 12 - 1) / 12) = mo by omega)
          clear r1 r2
          go_wp2_with fail
          go_round
          case rel => exact ⟨Y + 1, M - 12, rfl, rfl, R1.out, R2.out, by omega, by omega⟩
          case measure => simp [RowKit.intOf]; omega
        · have R1 := Lib.hid r1
          have R2 := Lib.hid r2
          clear r1 r2
          go_wp2_with fail
          go_loop [6, 7] (fun yv mv => ∃ Y M : Int, yv = .int .i64 Y ∧ mv = .int .i64 M ∧ Y + (M - 1) / 12 = yy ∧ M - 12 * ((M - 1) / 12) = mo ∧ -1000000 ≤ M ∧ M ≤ 12) (fun _ mv => (1 - RowKit.intOf mv).toNat)
          case atStart => exact ⟨Y, M, rfl, rfl, R1.out, R2.out, r3, by omega⟩
          case round =>
            clear R1 R2 hlt r3 r4 hYb
            obtain ⟨Y, M, rfl, rfl, r1, r2, r3, r4⟩ := hrel
            have hYb : -1300000 ≤ Y ∧ Y ≤ 1300000 := by omega
            by_cases hlt : M < 1
            · have R1 := Lib.hid (show Y - 1 + (M + 12 - 1) / 12 = yy by omega)
              have R2 := Lib.hid (show M + 12 - 12 * ((M + 12 - 1) / 12) = mo by omega)
              clear r1 r2
              go_wp2_with fail
              go_round
              case rel => exact ⟨Y - 1, M + 12, rfl, rfl, R1.out, R2.out, by omega, by omega⟩
              case measure => simp [RowKit.intOf]; omega
            · have hM : M = mo := by omega
              have hY : Y = yy := by omega
              subst hM hY
              clear r1 r2 r3 r4 hYb
              have v1 := dW_1 l
              go_wp2_with fail
              go_loop [8, 9] (fun dv kv => ∃ k : Int, kv = .int .i64 k ∧ 1 ≤ k ∧ k ≤ M ∧ dv = .int .i64 (d - 1 + dW l k)) (fun _ kv => (M - RowKit.intOf kv).toNat)
              case atStart => exact ⟨1, rfl, by omega, hmb.1, by rw [v1, Int.add_zero]⟩
              case round =>
                obtain ⟨k, rfl, k1, k2, rfl⟩ := hrel
                have vb := dW_bounds (l := l) (m := k) k1 (by omega)
                by_cases hlt2 : k < M
                · have CLk := fun (W : World) => CL.out Y k W k1 (by omega)
                  unfold mLen at CLk
                  rw [HLL.out] at CLk
                  have vb2 := dW_bounds (l := l) (m := k + 1) (by omega) (by omega)
                  obtain ⟨V2, hV2⟩ : ∃ V2, dW l (k + 1) = V2 := ⟨_, rfl⟩
                  obtain ⟨V, hV⟩ : ∃ V, dW l k = V := ⟨_, rfl⟩
                  rw [hV2] at CLk vb2
                  rw [hV] at CLk vb ⊢
                  have HN := Lib.hid (show d - 1 + V + (V2 - V) = d - 1 + dW l (k + 1) by rw [hV2]; omega)
                  have CLk := Lib.hid CLk
                  clear hV hV2
                  go_wp2_with fail
                  refine (CLk.out _).mono ?_
                  rintro e w' ⟨rfl, rfl⟩
                  go_wp2_with fail
                  go_round
                  case rel => exact ⟨k + 1, rfl, by omega, by omega, by rw [← HN.out]⟩
                  case measure => simp [RowKit.intOf]; omega
                · obtain rfl : k = M := by omega
                  obtain ⟨G, hG⟩ : ∃ G, dA Y + dW l k + d - 1 = G := ⟨_, rfl⟩
                  have hAb : ∀ z : Int, -1300000 ≤ z → z ≤ 1300000 → -480000000 ≤ dA z ∧ dA z ≤ 480000000 := fun z p q => by unfold dA; omega
                  have hGb : -490000000 ≤ G ∧ G ≤ 490000000 := by have := hAb Y (by omega) (by omega); omega
                  have HTG := HT.out
                  rw [hG] at HTG
                  have HTG := Lib.hid HTG
                  have HG := Lib.hid hG
                  have HAB := Lib.hid hAb
                  have dAge := Lib.hid (fun z : Int => (show dA (z + 400) = dA z + 146097 from dA_age z))
                  have dSu := Lib.hid (fun z : Int => (show dA (z + 1) = dA z + yLen z ∧ 365 ≤ yLen z ∧ yLen z ≤ 366 from ⟨dA_succ z, by unfold yLen; split <;> omega, by unfold yLen; split <;> omega⟩))
                  clear hG hAb v1 hlt hlt2 HT
                  go_wp2_with fail
                  go_loop [6, 8] (fun yv dv => ∃ Z E : Int, yv = .int .i64 Z ∧ dv = .int .i64 E ∧ E + dA Z = G ∧ -1300000 ≤ Z ∧ Z ≤ 1300000) (fun yv _ => (RowKit.intOf yv).toNat)
                  case atStart => exact ⟨Y, d - 1 + dW l k, rfl, rfl, by have := HG.out; omega, by omega, by omega⟩
                  case round =>
                    clear vb
                    obtain ⟨Z, E, rfl, rfl, r1, r2, r3⟩ := hrel
                    have hEb : -1000000000 ≤ E ∧ E ≤ 1000000000 := by have := HAB.out Z r2 r3; omega
                    by_cases z1 : 1 < Z
                    · by_cases z2 : 401 < Z
                      · have R1 := Lib.hid (show E + 146097 + dA (Z - 400) = G by have := dAge.out (Z - 400); rw [show Z - 400 + 400 = Z by omega] at this; omega)
                        clear r1
                        go_wp2_with fail
                        go_round
                        case rel => exact ⟨Z - 400, E + 146097, rfl, rfl, R1.out, by omega, by omega⟩
                        case measure => simp [RowKit.intOf]; omega
                      · have hs := dSu.out (Z - 1)
                        rw [show Z - 1 + 1 = Z by omega] at hs
                        have CYz := fun (W : World) => CY.out (Z - 1) W
                        obtain ⟨L, hL⟩ : ∃ L, yLen (Z - 1) = L := ⟨_, rfl⟩
                        rw [hL] at hs CYz
                        have R1 := Lib.hid (show E + L + dA (Z - 1) = G by omega)
                        have CYz := Lib.hid CYz
                        obtain ⟨-, L1, L2⟩ := hs
                        clear r1 hL
                        go_wp2_with fail
                        refine (CYz.out _).mono ?_
                        rintro e w' ⟨rfl, rfl⟩
                        go_wp2_with fail
                        go_round
                        case rel => exact ⟨Z - 1, E + L, rfl, rfl, R1.out, by omega, by omega⟩
                        case measure => simp [RowKit.intOf]; omega
                    · have R1 := Lib.hid r1
                      clear r1
                      go_wp2_with fail
                      go_loop [6, 8] (fun yv dv => ∃ Z E : Int, yv = .int .i64 Z ∧ dv = .int .i64 E ∧ E + dA Z = G ∧ -1300000 ≤ Z ∧ Z ≤ 1) (fun yv _ => (1 - RowKit.intOf yv).toNat)
                      case atStart => exact ⟨Z, E, rfl, rfl, R1.out, r2, by omega⟩
                      case round =>
                        clear R1 hEb z1 r2 r3
                        obtain ⟨Z, E, rfl, rfl, r1, r2, r3⟩ := hrel
                        have hEb : -1000000000 ≤ E ∧ E ≤ 1000000000 := by have := HAB.out Z r2 (by omega); omega
                        by_cases z1 : Z < 1
                        · by_cases z2 : Z < -400
                          · have R1 := Lib.hid (show E - 146097 + dA (Z + 400) = G by have := dAge.out Z; omega)
                            clear r1
                            go_wp2_with fail
                            go_round
                            case rel => exact ⟨Z + 400, E - 146097, rfl, rfl, R1.out, by omega, by omega⟩
                            case measure => simp [RowKit.intOf]; omega
                          · have hs := dSu.out Z
                            have CYz := fun (W : World) => CY.out Z W
                            obtain ⟨L, hL⟩ : ∃ L, yLen Z = L := ⟨_, rfl⟩
                            rw [hL] at hs CYz
                            have R1 := Lib.hid (show E - L + dA (Z + 1) = G by omega)
                            have CYz := Lib.hid CYz
                            obtain ⟨-, L1, L2⟩ := hs
                            clear r1 hL
                            go_wp2_with fail
                            refine (CYz.out _).mono ?_
                            rintro e w' ⟨rfl, rfl⟩
                            go_wp2_with fail
                            go_round
                            case rel => exact ⟨Z + 1, E - L, rfl, rfl, R1.out, by omega, by omega⟩
                            case measure => simp [RowKit.intOf]; omega
                        · obtain rfl : Z = 1 := by omega
                          have hE : E = G := by
                            rw [show dA 1 = 0 by decide] at r1
                            omega
                          subst hE
                          have hTE := HTG.out
                          clear r1 r2 r3 z1
                          by_cases hT2 : -62135596800 ≤ T ∧ T ≤ 253402300799
                          · have R := Lib.hid (RT.out.trans (if_pos hT2))
                            obtain ⟨u1, u2⟩ := hT2
                            go_wp2_with fail
                            go_ret2
                            exact ⟨by rw [R.out]; rfl, HB3.out⟩
                          · have R := Lib.hid (RT.out.trans (if_neg hT2))
                            have hT3 : T < -62135596800 ∨ (-62135596800 ≤ T ∧ 253402300799 < T) := by omega
                            clear hT2
                            rcases hT3 with u1 | ⟨u1, u2⟩
                            all_goals
                              go_wp2_with fail
                              go_ret2
                              exact ⟨by rw [R.out]; rfl, HB3.out⟩
    · have HF := Lib.hid hf
      clear hf
      have hk' : k = 0 ∨ k = 1 ∨ k = 2 ∨ k = 3 ∨ k = 4 ∨ k = 5 := by omega
      rcases hk' with rfl | rfl | rfl | rfl | rfl | rfl
      · rcases (show y < -1000000 ∨ 1000000 < y ∨ (-1000000 ≤ y ∧ y ≤ 1000000) by omega) with hb | hb | ⟨b1, b2⟩
        · have RO := Lib.hid (atR_out (y := y) (m := m) (d := d) (hh := hh) (mm := mm) (ss := ss) (fun h => by have := h.1; unfold inB at this; omega))
          go_wp2_with fail
          go_ret2
          exact ⟨by rw [RO.out]; rfl, HB2.out⟩
        · have RO := Lib.hid (atR_out (y := y) (m := m) (d := d) (hh := hh) (mm := mm) (ss := ss) (fun h => by have := h.1; unfold inB at this; omega))
          have hb' : -1000000 ≤ y := by omega
          go_wp2_with fail
          go_ret2
          exact ⟨by rw [RO.out]; rfl, HB2.out⟩
        · go_wp2_with fail
          go_round
          case rel => exact ⟨1, rfl, by omega, by
            have h := HF.out
            unfold firstIn at h ⊢
            have hi : inB y := ⟨b1, b2⟩
            simp at h ⊢
            simp [hi]⟩
          case measure => simp [RowKit.intOf]
      · rcases (show m < -1000000 ∨ 1000000 < m ∨ (-1000000 ≤ m ∧ m ≤ 1000000) by omega) with hb | hb | ⟨b1, b2⟩
        · have RO := Lib.hid (atR_out (y := y) (m := m) (d := d) (hh := hh) (mm := mm) (ss := ss) (fun h => by have := h.2.1; unfold inB at this; omega))
          go_wp2_with fail
          go_ret2
          exact ⟨by rw [RO.out]; rfl, HB2.out⟩
        · have RO := Lib.hid (atR_out (y := y) (m := m) (d := d) (hh := hh) (mm := mm) (ss := ss) (fun h => by have := h.2.1; unfold inB at this; omega))
          have hb' : -1000000 ≤ m := by omega
          go_wp2_with fail
          go_ret2
          exact ⟨by rw [RO.out]; rfl, HB2.out⟩
        · go_wp2_with fail
          go_round
          case rel => exact ⟨2, rfl, by omega, by
            have h := HF.out
            unfold firstIn at h ⊢
            have hi : inB m := ⟨b1, b2⟩
            simp at h ⊢
            simp [h, hi]⟩
          case measure => simp [RowKit.intOf]
      · rcases (show d < -1000000 ∨ 1000000 < d ∨ (-1000000 ≤ d ∧ d ≤ 1000000) by omega) with hb | hb | ⟨b1, b2⟩
        · have RO := Lib.hid (atR_out (y := y) (m := m) (d := d) (hh := hh) (mm := mm) (ss := ss) (fun h => by have := h.2.2.1; unfold inB at this; omega))
          go_wp2_with fail
          go_ret2
          exact ⟨by rw [RO.out]; rfl, HB2.out⟩
        · have RO := Lib.hid (atR_out (y := y) (m := m) (d := d) (hh := hh) (mm := mm) (ss := ss) (fun h => by have := h.2.2.1; unfold inB at this; omega))
          have hb' : -1000000 ≤ d := by omega
          go_wp2_with fail
          go_ret2
          exact ⟨by rw [RO.out]; rfl, HB2.out⟩
        · go_wp2_with fail
          go_round
          case rel => exact ⟨3, rfl, by omega, by
            have h := HF.out
            unfold firstIn at h ⊢
            have hi : inB d := ⟨b1, b2⟩
            simp at h ⊢
            simp [h, hi]⟩
          case measure => simp [RowKit.intOf]
      · rcases (show hh < -1000000 ∨ 1000000 < hh ∨ (-1000000 ≤ hh ∧ hh ≤ 1000000) by omega) with hb | hb | ⟨b1, b2⟩
        · have RO := Lib.hid (atR_out (y := y) (m := m) (d := d) (hh := hh) (mm := mm) (ss := ss) (fun h => by have := h.2.2.2.1; unfold inB at this; omega))
          go_wp2_with fail
          go_ret2
          exact ⟨by rw [RO.out]; rfl, HB2.out⟩
        · have RO := Lib.hid (atR_out (y := y) (m := m) (d := d) (hh := hh) (mm := mm) (ss := ss) (fun h => by have := h.2.2.2.1; unfold inB at this; omega))
          have hb' : -1000000 ≤ hh := by omega
          go_wp2_with fail
          go_ret2
          exact ⟨by rw [RO.out]; rfl, HB2.out⟩
        · go_wp2_with fail
          go_round
          case rel => exact ⟨4, rfl, by omega, by
            have h := HF.out
            unfold firstIn at h ⊢
            have hi : inB hh := ⟨b1, b2⟩
            simp at h ⊢
            simp [h, hi]⟩
          case measure => simp [RowKit.intOf]
      · rcases (show mm < -1000000 ∨ 1000000 < mm ∨ (-1000000 ≤ mm ∧ mm ≤ 1000000) by omega) with hb | hb | ⟨b1, b2⟩
        · have RO := Lib.hid (atR_out (y := y) (m := m) (d := d) (hh := hh) (mm := mm) (ss := ss) (fun h => by have := h.2.2.2.2.1; unfold inB at this; omega))
          go_wp2_with fail
          go_ret2
          exact ⟨by rw [RO.out]; rfl, HB2.out⟩
        · have RO := Lib.hid (atR_out (y := y) (m := m) (d := d) (hh := hh) (mm := mm) (ss := ss) (fun h => by have := h.2.2.2.2.1; unfold inB at this; omega))
          have hb' : -1000000 ≤ mm := by omega
          go_wp2_with fail
          go_ret2
          exact ⟨by rw [RO.out]; rfl, HB2.out⟩
        · go_wp2_with fail
          go_round
          case rel => exact ⟨5, rfl, by omega, by
            have h := HF.out
            unfold firstIn at h ⊢
            have hi : inB mm := ⟨b1, b2⟩
            simp at h ⊢
            simp [h, hi]⟩
          case measure => simp [RowKit.intOf]
      · rcases (show ss < -1000000 ∨ 1000000 < ss ∨ (-1000000 ≤ ss ∧ ss ≤ 1000000) by omega) with hb | hb | ⟨b1, b2⟩
        · have RO := Lib.hid (atR_out (y := y) (m := m) (d := d) (hh := hh) (mm := mm) (ss := ss) (fun h => by have := h.2.2.2.2.2; unfold inB at this; omega))
          go_wp2_with fail
          go_ret2
          exact ⟨by rw [RO.out]; rfl, HB2.out⟩
        · have RO := Lib.hid (atR_out (y := y) (m := m) (d := d) (hh := hh) (mm := mm) (ss := ss) (fun h => by have := h.2.2.2.2.2; unfold inB at this; omega))
          have hb' : -1000000 ≤ ss := by omega
          go_wp2_with fail
          go_ret2
          exact ⟨by rw [RO.out]; rfl, HB2.out⟩
        · go_wp2_with fail
          go_round
          case rel => exact ⟨6, rfl, by omega, by
            have h := HF.out
            unfold firstIn at h ⊢
            have hi : inB ss := ⟨b1, b2⟩
            simp at h ⊢
            simp [h, hi]⟩
          case measure => simp [RowKit.intOf]
end Go.Proofs.YtelhbkfhalpniaaDoor
