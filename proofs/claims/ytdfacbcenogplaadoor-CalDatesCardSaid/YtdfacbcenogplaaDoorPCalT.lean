/- Contracts of layer 13's definition: leap, year, length, Of. -/
import Derived.Test.YtdfacbcenogplaaDoorCa1
import Derived.Test.YtdfacbcenogplaaDoorCa2
import Derived.Test.YtdfacbcenogplaaDoorCa3
namespace Go.Proofs.YtdfacbcenogplaaDoor
open Go.RowKit Go.Lib Go.Joins

set_option maxRecDepth 100000 in
theorem rLeap_any (y : Int) (w : World) : Calls Tryd.prog 58 #[.int .i64 y] w fun e w' => e = .returned (.bool (leapZ y)) ∧ w = w' := by
  have h4 := tmod_zero y 4
  have h100 := tmod_zero y 100
  have h400 := tmod_zero y 400
  obtain ⟨a, ha⟩ : ∃ a, y.tmod 4 = a := ⟨_, rfl⟩
  obtain ⟨b, hb⟩ : ∃ b, y.tmod 100 = b := ⟨_, rfl⟩
  obtain ⟨c, hc⟩ : ∃ c, y.tmod 400 = c := ⟨_, rfl⟩
  rw [ha] at h4
  rw [hb] at h100
  rw [hc] at h400
  have H4 := Lib.hid h4
  have H100 := Lib.hid h100
  have H400 := Lib.hid h400
  clear h4 h100 h400
  go_enter Tryd.func58, Tryd.ntmps58
  go_wp2_with fail
  all_goals
    go_ret
    refine ⟨?_, rfl⟩
    unfold leapZ
  · rename_i p q
    rw [beq_iff_eq.2 (H4.out.1 p), beq_iff_eq.2 (H100.out.1 q), Bool.true_and, Bool.not_true, Bool.false_or]
    have e : (y % 400 == 0) = (c == 0) := by rw [Bool.eq_iff_iff, beq_iff_eq, beq_iff_eq]; exact H400.out.symm
    rw [e]
    rfl
  · rename_i p q
    rw [beq_iff_eq.2 (H4.out.1 p), beq_eq_false_iff_ne.2 (fun h => q (H100.out.2 h)), Bool.true_and, Bool.not_false, Bool.true_or]
    rfl
  · rename_i p
    rw [beq_eq_false_iff_ne.2 (fun h => p (H4.out.2 h)), Bool.false_and]
    rfl
/-- A year's days, a month's. -/
def yLen (y : Int) : Int := if leapZ y then 366 else 365
def mLen (l : Bool) (m : Int) : Int := dW l (m + 1) - dW l m
set_option maxRecDepth 100000 in
theorem rYear_any (y : Int) (w : World) : Calls Tryd.prog 33 #[.int .i64 y] w fun e w' => e = .returned (.int .i64 (yLen y)) ∧ w = w' := by
  have C := rLeap_any y w
  unfold yLen
  generalize leapZ y = l at *
  have C := Lib.hid C
  cases l
  all_goals
    go_enter Tryd.func33, Tryd.ntmps33
    go_wp2_with fail
    refine C.out.mono ?_
    rintro e w' ⟨rfl, rfl⟩
    go_wp2_with fail
    go_ret
    exact ⟨rfl, rfl⟩
set_option maxRecDepth 100000 in
set_option maxHeartbeats 2000000 in
theorem rLength_any (y m : Int) (w : World) (h1 : 1 ≤ m) (h2 : m ≤ 12) : Calls Tryd.prog 34 #[.int .i64 y, .int .i64 m] w fun e w' => e = .returned (.int .i64 (mLen (leapZ y) m)) ∧ w = w' := by
  have C := rLeap_any y w
  have hm : m = 1 ∨ m = 2 ∨ m = 3 ∨ m = 4 ∨ m = 5 ∨ m = 6 ∨ m = 7 ∨ m = 8 ∨ m = 9 ∨ m = 10 ∨ m = 11 ∨ m = 12 := by omega
  generalize leapZ y = l at *
  have C := Lib.hid C
  rcases hm with rfl | rfl | rfl | rfl | rfl | rfl | rfl | rfl | rfl | rfl | rfl | rfl
  case inr.inl =>
    cases l
    all_goals
      go_enter Tryd.func34, Tryd.ntmps34
      go_wp2_with fail
      refine C.out.mono ?_
      rintro e w' ⟨rfl, rfl⟩
      go_wp2_with fail
      go_ret
      exact ⟨rfl, rfl⟩
  all_goals
    go_enter Tryd.func34, Tryd.ntmps34
    go_wp2_with fail
    go_ret
    cases l <;> exact ⟨rfl, rfl⟩
set_option maxRecDepth 100000 in
theorem rOf_no (t : Int) (w : World) (h : ¬ (-62135596800 ≤ t ∧ t ≤ 253402300799)) : Calls Tryd.prog 17 #[.int .i64 t] w fun e w' => e = .returned (.tuple #[dateV noDate, .int .i64 1]) ∧ Below w.heap.size w w' := by
  have h' : t < -62135596800 ∨ (-62135596800 ≤ t ∧ 253402300799 < t) := by omega
  clear h
  rcases h' with h1 | ⟨h1, h2⟩
  all_goals
    go_enter Tryd.func17, Tryd.ntmps17
    go_wp2_with fail
    (try simp only [Exit.inBlock, Exit.then])
    refine bodyPost_ret (v := .tuple #[dateV noDate, .int .i64 1]) ?_ rfl ⟨rfl, ?_⟩
    · rw [results_cell_tmp rfl]
      go_simp
      rfl
    · repeat' (first | exact Below.refl _ _ | refine Below.drew ?_ | refine Below.alloc ?_ (by simp <;> omega) _)
/-- One number of a date in memory, set. -/
theorem date_set {W : World} {g i : Nat} {cs : Array Value} (h : W.heap[g]? = some (.cells cs 35 (0, 0))) (v : Int) : (W.setCell ⟨g, i, none⟩ (.int .i64 v)).heap[g]? = some (.cells (cs.setIfInBounds i (.int .i64 v)) 35 (0, 0)) := block_setCell h _
/-- What the first loop of Of meets: the year that has been reached. -/
structure OfSt (w wr : World) (B : Nat) (x : DateZ) (y m d yd : Int) : Prop where
  row : wr.heap[B + 1]? = some (.cells #[.int .i64 y, .int .i64 m, .int .i64 d, .int .i64 x.hh, .int .i64 x.mm, .int .i64 x.ss, .int .i64 x.wk, .int .i64 yd] 35 (0, 0))
  out : wr.heap[B]? = some (.cells #[.int .i64 0, .int .i64 0, .int .i64 0, .int .i64 0, .int .i64 0, .int .i64 0, .int .i64 0, .int .i64 0] 35 (0, 0))
  bel : Below B w wr
theorem OfSt.setY {w wr : World} {B : Nat} {x : DateZ} {y m d yd : Int} (h : OfSt w wr B x y m d yd) (v : Int) : OfSt w (wr.setCell ⟨B + 1, 0, none⟩ (.int .i64 v)) B x v m d yd := by
  have z := date_set h.row (i := 0) v
  simp only [List.setIfInBounds_toArray, List.set_cons_zero] at z
  exact ⟨z, (Below.heap_setCell wr ⟨B + 1, 0, none⟩ (.int .i64 v) B (by show B ≠ B + 1; omega)).trans h.out, h.bel.setCell (p := ⟨B + 1, 0, none⟩) (Nat.le_succ _) _⟩
theorem OfSt.setM {w wr : World} {B : Nat} {x : DateZ} {y m d yd : Int} (h : OfSt w wr B x y m d yd) (v : Int) : OfSt w (wr.setCell ⟨B + 1, 1, none⟩ (.int .i64 v)) B x y v d yd := by
  have z := date_set h.row (i := 1) v
  simp only [List.setIfInBounds_toArray, List.set_cons_zero, List.set_cons_succ] at z
  exact ⟨z, (Below.heap_setCell wr ⟨B + 1, 1, none⟩ (.int .i64 v) B (by show B ≠ B + 1; omega)).trans h.out, h.bel.setCell (p := ⟨B + 1, 1, none⟩) (Nat.le_succ _) _⟩
theorem OfSt.setD {w wr : World} {B : Nat} {x : DateZ} {y m d yd : Int} (h : OfSt w wr B x y m d yd) (v : Int) : OfSt w (wr.setCell ⟨B + 1, 2, none⟩ (.int .i64 v)) B x y m v yd := by
  have z := date_set h.row (i := 2) v
  simp only [List.setIfInBounds_toArray, List.set_cons_zero, List.set_cons_succ] at z
  exact ⟨z, (Below.heap_setCell wr ⟨B + 1, 2, none⟩ (.int .i64 v) B (by show B ≠ B + 1; omega)).trans h.out, h.bel.setCell (p := ⟨B + 1, 2, none⟩) (Nat.le_succ _) _⟩
theorem OfSt.setJ {w wr : World} {B : Nat} {x : DateZ} {y m d yd : Int} (h : OfSt w wr B x y m d yd) (v : Int) : OfSt w (wr.setCell ⟨B + 1, 7, none⟩ (.int .i64 v)) B x y m d v := by
  have z := date_set h.row (i := 7) v
  simp only [List.setIfInBounds_toArray, List.set_cons_zero, List.set_cons_succ] at z
  exact ⟨z, (Below.heap_setCell wr ⟨B + 1, 7, none⟩ (.int .i64 v) B (by show B ≠ B + 1; omega)).trans h.out, h.bel.setCell (p := ⟨B + 1, 7, none⟩) (Nat.le_succ _) _⟩
theorem OfSt.at {w wr : World} {B : Nat} {x : DateZ} {y m d yd : Int} (h : OfSt w wr B x y m d yd) : wr.cell? ⟨B + 1, 0, none⟩ = some (.int .i64 y) ∧ wr.cell? ⟨B + 1, 1, none⟩ = some (.int .i64 m) ∧ wr.cell? ⟨B + 1, 2, none⟩ = some (.int .i64 d) ∧ wr.cell? ⟨B + 1, 7, none⟩ = some (.int .i64 yd) ∧ wr.frozen? ⟨B + 1, 0, none⟩ = false ∧ wr.frozen? ⟨B + 1, 1, none⟩ = false ∧ wr.frozen? ⟨B + 1, 2, none⟩ = false ∧ wr.frozen? ⟨B + 1, 7, none⟩ = false :=
  ⟨cell_of_block h.row 0, cell_of_block h.row 1, cell_of_block h.row 2, cell_of_block h.row 7, unfrozen_of_block h.row 0, unfrozen_of_block h.row 1, unfrozen_of_block h.row 2, unfrozen_of_block h.row 7⟩
set_option maxRecDepth 100000 in
set_option maxHeartbeats 4000000 in
theorem rOf_yes (t : Int) (x : DateZ) (w : World) (h : DateIs t x) (h0 : -62135596800 ≤ t) (h1 : t ≤ 253402300799) : Calls Tryd.prog 17 #[.int .i64 t] w fun e w' => e = .returned (.tuple #[dateV x, .int .i64 0]) ∧ Below w.heap.size w w' := by
  have CY := Lib.hid (fun (y : Int) (W : World) => rYear_any y W)
  have CL := Lib.hid (fun (y m : Int) (W : World) (a : 1 ≤ m) (b : m ≤ 12) => rLength_any y m W a b)
  obtain ⟨b1, b2, b3, b4, b5, b6, b7, b8, b9, b10, b11, b12, b13, b14, b15, b16⟩ := h.bounds h0 h1
  obtain ⟨D, hD⟩ : ∃ D, (t + 62135596800) / 86400 = D := ⟨_, rfl⟩
  obtain ⟨R, hR⟩ : ∃ R, (t + 62135596800) % 86400 = R := ⟨_, rfl⟩
  have d1 : 0 ≤ D ∧ D ≤ 3652058 := by omega
  have d2 : 0 ≤ R ∧ R < 86400 := by omega
  have H := Lib.hid h
  have hh := h.hh
  have hm := h.mm
  have hs := h.ss
  have hw := h.wk
  rw [hR] at hh hm hs
  rw [hD] at hw
  clear h
  go_enter Tryd.func17, Tryd.ntmps17
  go_wp2_with fail
  simp only [hD, hR]
  rw [← hh, ← hm, ← hs, ← hw]
  have hr1 := calFirst_new w calDateO (.cells #[.int .i64 1, .int .i64 1, .int .i64 0, .int .i64 x.hh, .int .i64 x.mm, .int .i64 x.ss, .int .i64 x.wk, .int .i64 0] 35)
  have hr2 := calSecond_new w calDateO (.cells #[.int .i64 1, .int .i64 1, .int .i64 0, .int .i64 x.hh, .int .i64 x.mm, .int .i64 x.ss, .int .i64 x.wk, .int .i64 0] 35)
  have hbb := below_alloc2 w calDateO (.cells #[.int .i64 1, .int .i64 1, .int .i64 0, .int .i64 x.hh, .int .i64 x.mm, .int .i64 x.ss, .int .i64 x.wk, .int .i64 0] 35)
  unfold calDateO at hr1 hr2 hbb
  obtain ⟨W2, hW2⟩ : ∃ W2, (w.alloc (.cells #[.int .i64 0, .int .i64 0, .int .i64 0, .int .i64 0, .int .i64 0, .int .i64 0, .int .i64 0, .int .i64 0] 35)).alloc (.cells #[.int .i64 1, .int .i64 1, .int .i64 0, .int .i64 x.hh, .int .i64 x.mm, .int .i64 x.ss, .int .i64 x.wk, .int .i64 0] 35) = W2 := ⟨_, rfl⟩
  rw [hW2] at hr1 hr2 hbb ⊢
  obtain ⟨B, hB⟩ : ∃ B, w.heap.size = B := ⟨_, rfl⟩
  rw [hB] at hr1 hr2 hbb ⊢
  have ST0 := Lib.hid (show OfSt w W2 B x 1 1 0 0 from ⟨hr2, hr1, hbb⟩)
  have HB := Lib.hid hB
  clear hW2 hr1 hr2 hbb hB
  have l1 := H.out.low
  have l2 := H.out.high
  rw [hD] at l1 l2
  have HDD := Lib.hid hD
  clear hh hm hs hw hD hR
  go_loopw [4] (fun dv wr => ∃ Y : Int, dv = .int .i64 (D - dA Y) ∧ 1 ≤ Y ∧ Y ≤ x.y ∧ dA Y ≤ D ∧ OfSt w wr B x Y 1 0 0) (fun dv _ => (RowKit.intOf dv).toNat)
  case atStart => exact ⟨1, by rw [show dA 1 = 0 by decide, Int.sub_zero], by omega, b1, by rw [show dA 1 = 0 by decide]; exact d1.1, ST0.out⟩
  case round =>
    obtain ⟨Y, rfl, y1, y2, y3, st⟩ := hrel
    clear ST0
    have hsucc := dA_succ Y
    have hyl : 365 ≤ yLen Y ∧ yLen Y ≤ 366 ∧ dA (Y + 1) = dA Y + yLen Y := by unfold yLen; rw [hsucc]; split <;> omega
    obtain ⟨L, hL⟩ : ∃ L, yLen Y = L := ⟨_, rfl⟩
    rw [hL] at hyl
    have hdb : 0 ≤ dA Y := by
      have h1 := dA_mono y1
      have h2 : dA 1 = 0 := by decide
      omega
    obtain ⟨A, hA⟩ : ∃ A, dA Y = A := ⟨_, rfl⟩
    have ST := Lib.hid st
    obtain ⟨c0, c1, c2, c7, f0, f1, f2, f7⟩ := st.at
    clear st
    have HSU := Lib.hid hsucc
    have HL := Lib.hid hL
    have HA := Lib.hid hA
    rw [hA] at y3 hyl hdb ⊢
    clear hsucc hL hA
    by_cases hlt : L ≤ D - A
    · have y4 : Y + 1 ≤ x.y := by
        rcases Int.lt_or_le Y x.y with hc | hc
        · omega
        · have := dA_mono (show x.y + 1 ≤ Y + 1 by omega)
          omega
      have hnew : D - A - L = D - dA (Y + 1) := by rw [hyl.2.2]; omega
      have HNEW := Lib.hid hnew
      have hle : dA (Y + 1) ≤ D := by omega
      have HLE := Lib.hid hle
      clear hnew hle
      go_wp2_with fail
      refine (CY.out Y _).mono ?_
      rintro e w' ⟨rfl, rfl⟩
      rw [HL.out]
      go_wp2_with fail
      refine (CY.out Y _).mono ?_
      rintro e w' ⟨rfl, rfl⟩
      rw [HL.out]
      go_wp2_with fail
      go_roundw
      case rel => exact ⟨Y + 1, by rw [HNEW.out], by omega, y4, HLE.out, ST.out.setY (Y + 1)⟩
      case measure => simp [RowKit.intOf]; omega
    · have hY : Y = x.y := year_uniq (d := D) (by rw [HA.out]; exact y3) (by omega) l1 l2
      subst hY
      have hyd := H.out.yd
      have hn1 := H.out.ahead
      have hn2 := H.out.behind
      have hxd := H.out.d
      have hDt : (t + 62135596800) / 86400 = D := HDD.out
      rw [hDt, HA.out] at hyd
      obtain ⟨l, hl⟩ : ∃ l, leapZ x.y = l := ⟨_, rfl⟩
      rw [hl] at hn1 hn2 hxd
      have HLL := Lib.hid hl
      have HXD := Lib.hid hxd
      have hgo : D - A = x.yd - 1 := by omega
      rw [hgo] at hlt ⊢
      have hgo2 : x.yd - 1 + 1 = x.yd := by omega
      have hMono := Lib.hid (fun (m : Int) (p : 1 ≤ m) (q : m ≤ x.m) => (show (dW l (m + 1) ≤ x.yd - 1 → m + 1 ≤ x.m) ∧ (¬ dW l (m + 1) ≤ x.yd - 1 → m = x.m) from by
        refine ⟨fun hc => ?_, fun hc => ?_⟩
        · rcases Int.lt_or_le m x.m with h4 | h4
          · omega
          · have : m = x.m := by omega
            subst this
            omega
        · rcases Int.lt_or_le m x.m with h4 | h4
          · have := dW_mono (l := l) (a := m + 1) (b := x.m) (by omega) (by omega) (by omega)
            omega
          · omega))
      clear hyd hn1 hn2 hxd hDt hl hgo HSU
      go_wp2_with fail
      refine (CY.out x.y _).mono ?_
      rintro e w' ⟨rfl, rfl⟩
      rw [HL.out]
      go_wp2_with fail
      have ST7 := Lib.hid (ST.out.setJ x.yd)
      clear ST c0 c1 c2 c7 f0 f1 f2 f7
      go_loopw [4] (fun dv wr => ∃ m : Int, dv = .int .i64 (x.yd - 1 - dW l m) ∧ 1 ≤ m ∧ m ≤ x.m ∧ OfSt w wr B x x.y m 0 x.yd) (fun dv _ => (RowKit.intOf dv).toNat)
      case atStart => exact ⟨1, by rw [dW_1, Int.sub_zero], by omega, b3, ST7.out⟩
      case round =>
        obtain ⟨m, rfl, m1, m2, st⟩ := hrel
        clear ST7
        obtain ⟨M1, M2⟩ := hMono.out m m1 m2
        have CLm := fun (W : World) => CL.out x.y m W m1 (by omega)
        unfold mLen at CLm
        rw [HLL.out] at CLm
        have vb := dW_bounds (l := l) (m := m) m1 (by omega)
        have vb2 := dW_bounds (l := l) (m := m + 1) (by omega) (by omega)
        have vlen := dW_len (l := l) (m := m) m1 (by omega)
        obtain ⟨V2, hV2⟩ : ∃ V2, dW l (m + 1) = V2 := ⟨_, rfl⟩
        obtain ⟨V, hV⟩ : ∃ V, dW l m = V := ⟨_, rfl⟩
        rw [hV2] at M1 M2 CLm vb2 vlen
        rw [hV] at CLm vb vlen ⊢
        have ST := Lib.hid st
        obtain ⟨c0, c1, c2, c7, f0, f1, f2, f7⟩ := st.at
        have HV := Lib.hid hV
        have HV2 := Lib.hid hV2
        have CLm := Lib.hid CLm
        clear st hV hV2
        by_cases hlt : V2 - V ≤ x.yd - 1 - V
        · have m3 := M1 (by omega)
          clear M1 M2
          have hnew : x.yd - 1 - V - (V2 - V) = x.yd - 1 - dW l (m + 1) := by rw [HV2.out]; omega
          have HNEW := Lib.hid hnew
          clear hnew
          go_wp2_with fail
          refine (CLm.out _).mono ?_
          rintro e w' ⟨rfl, rfl⟩
          go_wp2_with fail
          refine (CLm.out _).mono ?_
          rintro e w' ⟨rfl, rfl⟩
          go_wp2_with fail
          go_roundw
          case rel => exact ⟨m + 1, by rw [HNEW.out], by omega, m3, ST.out.setM (m + 1)⟩
          case measure => simp [RowKit.intOf]; omega
        · have m3 := M2 (by omega)
          clear M1 M2
          subst m3
          have hxd := HXD.out
          rw [HV.out] at hxd
          obtain ⟨E, hE⟩ : ∃ E, x.yd - 1 - V = E := ⟨_, rfl⟩
          rw [hE] at hlt ⊢
          have hE1 : E + 1 = x.d := by omega
          have hE0 : 0 ≤ E ∧ E ≤ 366 := by omega
          have HXE := Lib.hid hxd
          clear hE hxd
          go_wp2_with fail
          refine (CLm.out _).mono ?_
          rintro e w' ⟨rfl, rfl⟩
          have ST2 := Lib.hid (ST.out.setD x.d)
          obtain ⟨W5, hW5⟩ : ∃ W5, wr.setCell ⟨B + 1, 2, none⟩ (.int .i64 x.d) = W5 := ⟨_, rfl⟩
          rw [hW5] at ST2
          obtain ⟨k0, k1, k2, k3, k4, k5, k6, k7⟩ := date_facts (th := x) ST2.out.row
          obtain ⟨q0, q1, q2, q3, q4, q5, q6, q7, y0, y1, y2, y3, y4, y5, y6, y7⟩ := zero_facts ST2.out.out
          go_wp2_with fail
          (try simp only [Exit.inBlock, Exit.then])
          refine bodyPost_ret (v := .tuple #[dateV x, .int .i64 0]) ?_ rfl ⟨rfl, ?_⟩
          · rw [results_cell_tmp rfl]
            have hl := run_loadVar_row (P := Tryd.prog) (set8 W5 B x) B 35 35 _ (0, 0) _ (set8_here ST2.out.out x) Tryd.underlying35 rfl (by kernel_rfl)
            show ((asAddr (.pointer (some ⟨B, 0, none⟩))).run Tryd.prog (set8 W5 B x)).andThen _ = _
            simp only [asAddr, Sem.run_pure, Result.andThen, hl]
            rfl
          · rw [HB.out]
            exact set8_below x ST2.out.bel (Nat.le_refl _)
end Go.Proofs.YtdfacbcenogplaaDoor
