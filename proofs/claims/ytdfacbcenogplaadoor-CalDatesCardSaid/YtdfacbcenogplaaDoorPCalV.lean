/- Laws of layer 13: CalDates, walked. -/
import Derived.Test.YtdfacbcenogplaaDoorPCalU
import Derived.Test.YtdfacbcenogplaaDoorCa1
import Derived.Test.YtdfacbcenogplaaDoorCa2
import Derived.Test.YtdfacbcenogplaaDoorCa3
namespace Go.Proofs.YtdfacbcenogplaaDoor
open Go.RowKit Go.Lib Go.Joins

theorem of_both (t : Int) : ∃ (X : DateZ) (E : Int), (E = 0 ∨ E = 1) ∧ (∀ W, CalMem W → Calls Tryd.prog 16 #[.int .i64 t] W fun e w' => e = .returned (.tuple #[dateV X, .int .i64 E]) ∧ Below W.heap.size W w') ∧ (∀ W, Calls Tryd.prog 17 #[.int .i64 t] W fun e w' => e = .returned (.tuple #[dateV X, .int .i64 E]) ∧ Below W.heap.size W w') := by
  by_cases h : -62135596800 ≤ t ∧ t ≤ 253402300799
  · obtain ⟨x, hx⟩ := date_ex t h.1
    exact ⟨x, 0, Or.inl rfl, fun W hW => of_yes t x W hx h.1 h.2 hW.ah, fun W => rOf_yes t x W hx h.1 h.2⟩
  · exact ⟨noDate, 1, Or.inr rfl, fun W _ => of_no t W h, fun W => rOf_no t W h⟩
set_option maxRecDepth 100000 in
set_option maxHeartbeats 8000000 in
theorem calDates_any (t y m d hh mm ss wk yd : Int) (w : World) (hM : CalMem w) : Calls Tryd.prog 5 #[.int .i64 t, .agg #[.int .i64 y, .int .i64 m, .int .i64 d, .int .i64 hh, .int .i64 mm, .int .i64 ss, .int .i64 wk, .int .i64 yd]] w fun e w' => e = .returned (.bool true) ∧ Below w.heap.size w w' := by
  obtain ⟨x, E, hE, CX, CR⟩ := of_both t
  have CA := fun (W : World) (hW : CalMem W) => at_any y m d hh mm ss wk yd W hW.ah
  have CS := fun (W : World) => rAt_any y m d hh mm ss wk yd W
  obtain ⟨a, ha⟩ : ∃ a, (atR y m d hh mm ss).1 = a := ⟨_, rfl⟩
  obtain ⟨b, hb⟩ : ∃ b, (atR y m d hh mm ss).2 = b := ⟨_, rfl⟩
  rw [ha, hb] at CA CS
  unfold dateV at CX CR CA CS
  simp only at CA CS
  have hb1 := below_alloc1 w (.cells #[.int .i64 y, .int .i64 m, .int .i64 d, .int .i64 hh, .int .i64 mm, .int .i64 ss, .int .i64 wk, .int .i64 yd] 35)
  have hM1 := hM.below hb1 (Nat.le_refl _)
  have hD1 := heap_alloc_new w (.cells #[.int .i64 y, .int .i64 m, .int .i64 d, .int .i64 hh, .int .i64 mm, .int .i64 ss, .int .i64 wk, .int .i64 yd] 35)
  obtain ⟨W1, hW1⟩ : ∃ W1, w.alloc (.cells #[.int .i64 y, .int .i64 m, .int .i64 d, .int .i64 hh, .int .i64 mm, .int .i64 ss, .int .i64 wk, .int .i64 yd] 35) = W1 := ⟨_, rfl⟩
  rw [hW1] at hb1 hM1 hD1
  obtain ⟨B, hB⟩ : ∃ B, w.heap.size = B := ⟨_, rfl⟩
  rw [hB] at hD1
  have CF := Lib.hid (calFixed_any W1 hM1)
  have CX := Lib.hid CX
  have CR := Lib.hid CR
  have CA := Lib.hid CA
  have CS := Lib.hid CS
  have HM1 := Lib.hid hM1
  have HD1 := Lib.hid hD1
  have HB1 := Lib.hid hb1
  have HW1 := Lib.hid hW1
  have HB := Lib.hid hB
  clear hM ha hb hE hM1 hD1 hb1 hW1 hB
  go_enter Tryd.func5, Tryd.ntmps5
  go_wp2_with fail
  rw [HW1.out, HB.out]
  refine CF.out.mono ?_
  rintro e W2 ⟨rfl, h2⟩
  have HB2 := Lib.hid (first_bel HB1.out h2)
  have HM2 := Lib.hid (HM1.out.below h2 (Nat.le_refl _))
  have HD2 := Lib.hid (zero_still HD1.out h2)
  clear h2
  go_wp2_with fail
  refine (CX.out _ HM2.out).mono ?_
  rintro e W3 ⟨rfl, h3⟩
  have h3a := h3.alloc h3.size (.cells #[.int .i64 x.y, .int .i64 x.m, .int .i64 x.d, .int .i64 x.hh, .int .i64 x.mm, .int .i64 x.ss, .int .i64 x.wk, .int .i64 x.yd] 35)
  have hX := date_new W3 x
  have hM3 := HM2.out.below h3a (Nat.le_refl _)
  have hD3 := zero_still HD2.out h3a
  obtain ⟨W4, hW4⟩ : ∃ W4, W3.alloc (.cells #[.int .i64 x.y, .int .i64 x.m, .int .i64 x.d, .int .i64 x.hh, .int .i64 x.mm, .int .i64 x.ss, .int .i64 x.wk, .int .i64 x.yd] 35) = W4 := ⟨_, rfl⟩
  rw [hW4] at h3a hM3 hX hD3
  obtain ⟨g, hg⟩ : ∃ g, W3.heap.size = g := ⟨_, rfl⟩
  rw [hg] at hX
  have HB4 := Lib.hid (first_bel HB2.out h3a)
  have HX4 := Lib.hid hX
  have HD4 := Lib.hid hD3
  have HM4 := Lib.hid hM3
  clear h3 h3a hM3 hX hD3
  go_wp2_with fail
  refine (CR.out _).mono ?_
  rintro e W5 ⟨rfl, h5⟩
  have h5a := h5.alloc h5.size (.cells #[.int .i64 x.y, .int .i64 x.m, .int .i64 x.d, .int .i64 x.hh, .int .i64 x.mm, .int .i64 x.ss, .int .i64 x.wk, .int .i64 x.yd] 35)
  have hY := date_new W5 x
  have hX6 := zero_still HX4.out h5a
  have hD6 := zero_still HD4.out h5a
  have hM6 := HM4.out.below h5a (Nat.le_refl _)
  obtain ⟨W6, hW6⟩ : ∃ W6, W5.alloc (.cells #[.int .i64 x.y, .int .i64 x.m, .int .i64 x.d, .int .i64 x.hh, .int .i64 x.mm, .int .i64 x.ss, .int .i64 x.wk, .int .i64 x.yd] 35) = W6 := ⟨_, rfl⟩
  rw [hW6] at h5a hM6 hX6 hD6 hY
  obtain ⟨g2, hg2⟩ : ∃ g2, W5.heap.size = g2 := ⟨_, rfl⟩
  rw [hg2] at hY
  have HB6 := Lib.hid (first_bel HB4.out h5a)
  have HX6 := Lib.hid hX6
  have HD6 := Lib.hid hD6
  have HY6 := Lib.hid hY
  have HM6 := Lib.hid hM6
  obtain ⟨p0, p1, p2, p3, p4, p5, p6, p7⟩ := date_facts (th := ⟨y, m, d, hh, mm, ss, wk, yd⟩) hD6
  simp only at p0 p1 p2 p3 p4 p5 p6 p7
  clear h5 h5a hM6 hX6 hD6 hY
  go_wp2_with fail
  refine (CA.out _ HM6.out).mono ?_
  rintro e W7 ⟨rfl, h7⟩
  have HB7 := Lib.hid (first_bel HB6.out h7)
  have HX7 := Lib.hid (zero_still HX6.out h7)
  have hD7 := zero_still HD6.out h7
  have HY7 := Lib.hid (zero_still HY6.out h7)
  clear h7 p0 p1 p2 p3 p4 p5 p6 p7
  obtain ⟨p0, p1, p2, p3, p4, p5, p6, p7⟩ := date_facts (th := ⟨y, m, d, hh, mm, ss, wk, yd⟩) hD7
  simp only at p0 p1 p2 p3 p4 p5 p6 p7
  clear hD7
  go_wp2_with fail
  refine (CS.out _).mono ?_
  rintro e W8 ⟨rfl, h8⟩
  have HB8 := Lib.hid (first_bel HB7.out h8)
  obtain ⟨k0, k1, k2, k3, k4, k5, k6, k7⟩ := date_facts (th := x) (zero_still HX7.out h8)
  obtain ⟨q0, q1, q2, q3, q4, q5, q6, q7⟩ := date_facts (th := x) (zero_still HY7.out h8)
  clear h8 p0 p1 p2 p3 p4 p5 p6 p7
  go_wp2_with fail
  go_ret
  exact ⟨by simp, HB8.out⟩
end Go.Proofs.YtdfacbcenogplaaDoor
