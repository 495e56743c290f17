/- Several texts in one (Contracts of layer 5: whole; Contracts of layer 5: Number, where it refuses, and of what is no number; Contracts of layer 5: whole, as the pieces; Number, by a verb of whole numbers; Contracts of layer 5: Number, by a verb of whole numbers; whatever the verb; The law's blanks and value; Layer 1: the law UstrAll, walked; Contracts of layer 1: Place; Contracts of layer 1: ahead; Contracts of layer 1: Sub; Contracts of layer 5: Text; the example of layer 5's laws; The example of layer 5's laws; the walk of the law FormatBack). -/
import Derived.Deep.CutBlock
import Derived.Deep.DeepCutAuto
import Derived.Test.YtbbbdcohkfijoaaGreatDoorQfw3
import Derived.Test.YtbbbdcohkfijoaaGreatDoorQfw4
import Derived.Test.YtbbbdcohkfijoaaGreatDoorQfw5
import Derived.Test.YtbbbdcohkfijoaaGreatDoorQfw7
import Derived.Test.YtbbbdcohkfijoaaGreatDoorQfw8
namespace Go.Proofs.YtbbbdcohkfijoaaGreatDoor
open Go.RowKit Go.Lib

set_option maxRecDepth 100000 in
set_option maxHeartbeats 8000000 in
theorem whole_core (m p b a z : Bool) (wd pr : Int) (c x : Nat) (lo nz : Bool) (SG D BS D1 D2 : ByteArray) (w : World) (h0 : -1 ≤ pr) (h1 : pr ≤ 190)
    (hlo : (FloatKind.f64.format.order x 0 == some .lt) = lo) (hnz : (FloatKind.f64.format.order x 0 != some .eq) = nz) (hez : (FloatKind.f64.format.order x 0 == some .eq) = !nz)
    (hSG : ∀ W, Calls Tryz.prog 130 #[.agg #[.bool m, .bool p, .bool b, .bool a, .bool z, .int .i64 wd, .int .i64 pr, .int .u8 (c : Int)], .bool lo] W fun e w' => e = .returned (.string SG) ∧ Below W.heap.size W w')
    (hD : (c = 111 ∧ ∀ W, Calls Tryz.prog 131 #[.float .f64 x, .int .i64 3] W fun e w' => e = .returned (.string D) ∧ Below W.heap.size W w')
      ∨ ((c = 120 ∨ c = 88) ∧ ∀ W, Calls Tryz.prog 131 #[.float .f64 x, .int .i64 4] W fun e w' => e = .returned (.string D) ∧ Below W.heap.size W w')
      ∨ ((c ≠ 111 ∧ c ≠ 120 ∧ c ≠ 88) ∧ ∀ W, Calls Tryz.prog 132 #[.float .f64 x, .int .i64 0] W fun e w' => e = .returned (.tuple #[.string D, .int .i64 0]) ∧ Below W.heap.size W w'))
    (hBS : BS = if (c = 120 ∨ c = 88) ∧ a = true ∧ nz = true then ⟨#[48, 120]⟩ else ⟨#[]⟩)
    (hD1 : D1 = if c = 111 ∧ a = true ∧ nz = true then (⟨#[48]⟩ : ByteArray) ++ D else D)
    (hD2 : D2 = if ¬ (c = 111 ∧ a = true) ∧ nz = false ∧ pr = 0 then ⟨#[]⟩ else D1) (hDs : D.size ≤ 10000) (hD2s : D2.size ≤ 10001) :
    Calls Tryz.prog 76 #[.agg #[.bool m, .bool p, .bool b, .bool a, .bool z, .int .i64 wd, .int .i64 pr, .int .u8 (c : Int)], .float .f64 x] w fun e w' => e = .returned (.agg #[.string SG, .string BS, .string (⟨(List.replicate (pr - (D2.size : Int)).toNat 48).toArray⟩ ++ D2)]) ∧ Below w.heap.size w w' := by
  have CG := Lib.hid hSG
  have fP := (Five.new w #[.bool m, .bool p, .bool b, .bool a, .bool z, .int .i64 wd, .int .i64 pr, .int .u8 (c : Int)] 35).alloc (.cells #[.string ⟨#[]⟩, .string ⟨#[]⟩, .string ⟨#[]⟩] 111)
  have fR := Five.new (w.alloc (.cells #[.bool m, .bool p, .bool b, .bool a, .bool z, .int .i64 wd, .int .i64 pr, .int .u8 (c : Int)] 35)) #[.string ⟨#[]⟩, .string ⟨#[]⟩, .string ⟨#[]⟩] 111
  have hB0 := ((Below.refl w.heap.size w).alloc (Nat.le_refl _) (.cells #[.bool m, .bool p, .bool b, .bool a, .bool z, .int .i64 wd, .int .i64 pr, .int .u8 (c : Int)] 35)).alloc (by simp) (.cells #[.string ⟨#[]⟩, .string ⟨#[]⟩, .string ⟨#[]⟩] 111)
  rw [World.size_alloc] at fR
  have hsz : ((w.alloc (.cells #[.bool m, .bool p, .bool b, .bool a, .bool z, .int .i64 wd, .int .i64 pr, .int .u8 (c : Int)] 35)).alloc (.cells #[.string ⟨#[]⟩, .string ⟨#[]⟩, .string ⟨#[]⟩] 111)).heap.size = w.heap.size + 2 := by rw [World.size_alloc, World.size_alloc]
  obtain ⟨B, hB⟩ : ∃ B, w.heap.size = B := ⟨_, rfl⟩
  obtain ⟨W2, hW2⟩ : ∃ W2, (w.alloc (.cells #[.bool m, .bool p, .bool b, .bool a, .bool z, .int .i64 wd, .int .i64 pr, .int .u8 (c : Int)] 35)).alloc (.cells #[.string ⟨#[]⟩, .string ⟨#[]⟩, .string ⟨#[]⟩] 111) = W2 := ⟨_, rfl⟩
  rw [hW2] at fP fR hB0 hsz
  rw [hB] at fP fR hB0 hsz ⊢
  have FP := Lib.hid fP
  have FR := Lib.hid fR
  have HB0 := Lib.hid hB0
  have HSZ := Lib.hid hsz
  have HW2 := Lib.hid hW2
  have HB := Lib.hid hB
  have HDD := Lib.hid hD
  have HBS := Lib.hid hBS
  have HD1 := Lib.hid hD1
  have HD2 := Lib.hid hD2
  have hwr : IntKind.i64.wrap (pr - (D2.size : Int)) = pr - (D2.size : Int) := IntWalk.i64_in _ (by omega)
  have cR := fun W => rep_any 48 (pr - (D2.size : Int)) W (by omega) (by omega)
  obtain ⟨Z, hZ⟩ : ∃ Z : ByteArray, (⟨(List.replicate (pr - (D2.size : Int)).toNat 48).toArray⟩ : ByteArray) = Z := ⟨_, rfl⟩
  rw [hZ] at cR ⊢
  have CR := Lib.hid (show ∀ W, Calls Tryz.prog 129 #[.string ⟨#[48]⟩, .int .i64 (IntKind.i64.wrap (pr - (D2.size : Int)))] W fun e w' => e = .returned (.string Z) ∧ Below W.heap.size W w' from fun W => by rw [hwr]; exact cR W)
  have hZs : Z.size ≤ 200 := by rw [← hZ, ← ba_len]; simp only [List.length_replicate]; omega
  clear cR hwr hZ
  clear fP fR hB0 hsz hW2 hB hD hSG hBS hD1 hD2
  go_enter Tryz.func76, Tryz.ntmps76
  go_wp2_with fail
  rw [HW2.out, HB.out]
  refine (CG.out _).mono ?_
  rintro e W3 ⟨rfl, h3⟩
  have hB3 : B + 2 ≤ W3.heap.size := by have := h3.size; have := HSZ.out; omega
  have fp3 := (FP.out.below h3).alloc (.cells #[.string SG, .string ⟨#[]⟩, .string ⟨#[]⟩] 111)
  have fr3 := (FR.out.below h3).alloc (.cells #[.string SG, .string ⟨#[]⟩, .string ⟨#[]⟩] 111)
  have fg3 := Five.new W3 #[.string SG, .string ⟨#[]⟩, .string ⟨#[]⟩] 111
  have hb3 := HB0.out.trans ((h3.mono (show B ≤ W2.heap.size by have := HSZ.out; omega)).alloc (by omega) (.cells #[.string SG, .string ⟨#[]⟩, .string ⟨#[]⟩] 111))
  have FZ := Five.new W3 #[.string ⟨#[]⟩, .string ⟨#[]⟩, .string ⟨#[]⟩] 111
  obtain ⟨z0, z1, z2, y0, y1, y2⟩ := FZ.three
  obtain ⟨-, -, -, -, -, -, -, p7⟩ := spec_cells fp3
  have FP3 := Lib.hid fp3
  have FR3 := Lib.hid fr3
  have FG3 := Lib.hid fg3
  have HB3 := Lib.hid hb3
  clear h3 FP FR HB0 HSZ FZ fp3 fr3 fg3 hb3
  go_upto_block 0 with (fail)
  clear z0 z1 z2 y0 y1 y2 p7
  obtain ⟨g, hg⟩ : ∃ g, W3.heap.size = g := ⟨_, rfl⟩
  obtain ⟨W4, hW4⟩ : ∃ W4, W3.alloc (.cells #[.string SG, .string ⟨#[]⟩, .string ⟨#[]⟩] 111) = W4 := ⟨_, rfl⟩
  rw [hg] at hB3 FG3
  rw [hW4] at FP3 FR3 FG3 HB3
  rw [hg, hW4]
  clear hg hW4
  have hle4 : B ≤ W4.heap.size := by have := FG3.out.lt; omega
  go_cut [] (fun wx => Five wx g #[.string SG, .string BS, .string D] 111 ∧ Five wx B #[.bool m, .bool p, .bool b, .bool a, .bool z, .int .i64 wd, .int .i64 pr, .int .u8 (c : Int)] 35 ∧ Five wx (B + 1) #[.string ⟨#[]⟩, .string ⟨#[]⟩, .string ⟨#[]⟩] 111 ∧ Below B w wx)
  case first =>
    obtain ⟨-, -, -, p3, -, -, -, -⟩ := spec_cells FP3.out
    rcases HDD.out with ⟨h, C⟩ | ⟨h, C⟩ | ⟨h, C⟩
    · have C := Lib.hid C
      subst h
      have hbs := HBS.out
      rw [if_neg (by omega)] at hbs
      clear HDD p3
      go_wp2_with fail
      refine (C.out _).mono ?_
      rintro e W5 ⟨rfl, h5⟩
      have F5 := FG3.out.below h5
      obtain ⟨q0, q1, q2, r0, r1, r2⟩ := F5.three
      have HF5 := Lib.hid F5
      have H5 := Lib.hid h5
      clear F5 h5
      go_wp2_with fail
      go_meet
      rw [hbs]
      exact ⟨HF5.out.set (j := 2) (u := .string D), (FP3.out.below H5.out).other (by omega), (FR3.out.below H5.out).other (by omega), (HB3.out.trans (H5.out.mono hle4)).setCell (p := ⟨g, 2, none⟩) (show B ≤ g by omega) _⟩
    · have C := Lib.hid C
      clear HDD p3
      have hv1 : ((c : Int) == 111) = false := by rw [beq_eq_false_iff_ne]; omega
      have hv2 : ((c : Int) == 120 || (c : Int) == 88) = true := by rcases h with rfl | rfl <;> rfl
      have HH := Lib.hid h
      rcases h with rfl | rfl
      all_goals
        go_wp2_with fail
        refine (C.out _).mono ?_
        rintro e W5 ⟨rfl, h5⟩
        have F5 := FG3.out.below h5
        obtain ⟨q0, q1, q2, r0, r1, r2⟩ := F5.three
        have P5 := FP3.out.below h5
        have HP5 := Lib.hid P5
        have HQ5 := Lib.hid (P5.other (g' := g) (j := 2) (u := .string D) (by omega))
        obtain ⟨-, -, -, p3, -, -, -, -⟩ := spec_cells HQ5.out
        have HF5 := Lib.hid F5
        have HR5 := Lib.hid (FR3.out.below h5)
        have HB5 := Lib.hid (HB3.out.trans (h5.mono hle4))
        clear F5 h5 P5
        have ne1 : ¬ B = g := by omega
        have ne2 : ¬ g = B := by omega
        have hbs := HBS.out
        cases a with
        | false =>
          rw [if_neg (by simp)] at hbs
          go_wp2_with fail
          go_meet
          rw [hbs]
          exact ⟨HF5.out.set (j := 2) (u := .string D), HQ5.out, HR5.out.other (by omega), HB5.out.setCell (p := ⟨g, 2, none⟩) (show B ≤ g by omega) _⟩
        | true =>
          cases nz with
          | false =>
            rw [if_neg (by simp)] at hbs
            go_wp2_with fail
            go_meet
            rw [hbs]
            exact ⟨HF5.out.set (j := 2) (u := .string D), HQ5.out, HR5.out.other (by omega), HB5.out.setCell (p := ⟨g, 2, none⟩) (show B ≤ g by omega) _⟩
          | true =>
            rw [if_pos ⟨HH.out, rfl, rfl⟩] at hbs
            go_wp2_with fail
            go_meet
            rw [hbs]
            exact ⟨(HF5.out.set (j := 2) (u := .string D)).set (j := 1) (u := .string ⟨#[48, 120]⟩), HQ5.out.other (by omega), (HR5.out.other (by omega)).other (by omega), (HB5.out.setCell (p := ⟨g, 2, none⟩) (show B ≤ g by omega) _).setCell (p := ⟨g, 1, none⟩) (show B ≤ g by omega) _⟩
    · have C := Lib.hid C
      clear HDD p3
      have hv1 : ((c : Int) == 111) = false := by rw [beq_eq_false_iff_ne]; omega
      have hv2 : ((c : Int) == 120) = false := by rw [beq_eq_false_iff_ne]; omega
      have hv3 : ((c : Int) == 88) = false := by rw [beq_eq_false_iff_ne]; omega
      have hbs := HBS.out
      rw [if_neg (by omega)] at hbs
      clear h
      go_wp2_with fail
      refine (C.out _).mono ?_
      rintro e W5 ⟨rfl, h5⟩
      have F5 := FG3.out.below h5
      obtain ⟨q0, q1, q2, r0, r1, r2⟩ := F5.three
      have HF5 := Lib.hid F5
      have H5 := Lib.hid h5
      clear F5 h5
      go_wp2_with fail
      go_meet
      rw [hbs]
      exact ⟨HF5.out.set (j := 2) (u := .string D), (FP3.out.below H5.out).other (by omega), (FR3.out.below H5.out).other (by omega), (HB3.out.trans (H5.out.mono hle4)).setCell (p := ⟨g, 2, none⟩) (show B ≤ g by omega) _⟩
  case rest =>
    obtain ⟨F5, P5, R5, hb5⟩ := hcut
    have HF5 := Lib.hid F5
    have HP5 := Lib.hid P5
    have HR5 := Lib.hid R5
    have HB5 := Lib.hid hb5
    clear F5 P5 R5 hb5 FP3 FR3 FG3 HB3 hle4 HDD
    obtain ⟨-, -, -, p3, -, -, -, p7⟩ := spec_cells HP5.out
    go_upto_region 11 with (fail)
    go_cut [6] (fun v wx => v = .bool (decide (c = 111) && a) ∧ wx = wc)
    case first =>
      by_cases hc : c = 111
      · subst hc
        clear HF5 HR5 HB5
        cases a with
        | false =>
          go_wp2_with fail
          go_meet
          exact ⟨rfl, rfl⟩
        | true =>
          go_wp2_with fail
          go_meet
          exact ⟨rfl, rfl⟩
      · have hv1 : ((c : Int) == 111) = false := by rw [beq_eq_false_iff_ne]; omega
        have HC := Lib.hid hc
        clear hc
        go_wp2_with fail
        go_meet
        exact ⟨by rw [decide_eq_false HC.out]; rfl, rfl⟩
    case rest =>
      obtain ⟨rfl, rfl⟩ := hcut
      obtain ⟨mk, hmk⟩ : ∃ mk, (decide (c = 111) && a) = mk := ⟨_, rfl⟩
      rw [hmk]
      have hm1 : D1 = if mk = true ∧ nz = true then (⟨#[48]⟩ : ByteArray) ++ D else D := by
        rw [HD1.out, ← hmk]
        by_cases hc : c = 111 <;> cases a <;> cases nz <;> simp [hc]
      have hm2 : D2 = if mk = false ∧ nz = false ∧ pr = 0 then ⟨#[]⟩ else D1 := by
        rw [HD2.out, ← hmk]
        by_cases hc : c = 111 <;> cases a <;> cases nz <;> simp [hc]
      have HM1 := Lib.hid hm1
      have HM2 := Lib.hid hm2
      clear hmk hm1 hm2 HD1 HD2 HBS
      have hgB : g < wc.heap.size := HF5.out.lt
      go_upto_region 12 with (fail)
      go_cut [49] (fun v wx => v = .bool (mk && nz) ∧ wx = wc)
      case first =>
        clear HF5 HP5 HR5 HB5 p3 p7
        cases mk with
        | false =>
          go_wp2_with fail
          go_meet
          exact ⟨rfl, rfl⟩
        | true =>
          go_wp2_with fail
          go_meet
          exact ⟨rfl, rfl⟩
      case rest =>
      obtain ⟨rfl, rfl⟩ := hcut
      go_upto_if 49 with (fail)
      go_cut [] (fun wx => Five wx g #[.string SG, .string BS, .string D1] 111 ∧ Five wx B #[.bool m, .bool p, .bool b, .bool a, .bool z, .int .i64 wd, .int .i64 pr, .int .u8 (c : Int)] 35 ∧ Five wx (B + 1) #[.string ⟨#[]⟩, .string ⟨#[]⟩, .string ⟨#[]⟩] 111 ∧ Below B w wx)
      case first =>
        have hm := HM1.out
        obtain ⟨q0, q1, q2, r0, r1, r2⟩ := HF5.out.three
        cases hmn : (mk && nz) with
        | false =>
          rw [if_neg (by intro e; rw [e.1, e.2] at hmn; cases hmn)] at hm
          go_wp2_with fail
          go_meet
          rw [hm]
          exact ⟨HF5.out, HP5.out, HR5.out, HB5.out⟩
        | true =>
          rw [if_pos (by rw [Bool.and_eq_true] at hmn; exact hmn)] at hm
          go_wp2_with fail
          go_meet
          rw [hm]
          exact ⟨HF5.out.set (j := 2) (u := .string (⟨#[48]⟩ ++ D)), HP5.out.other (by omega), HR5.out.other (by omega), HB5.out.setCell (p := ⟨g, 2, none⟩) (show B ≤ g by omega) _⟩
      case rest =>
      clear HF5 HP5 HR5 HB5 p3 p7 hgB
      obtain ⟨F5, P5, R5, hb5⟩ := hcut
      have hgB : g < wc.heap.size := F5.lt
      have HF5 := Lib.hid F5
      have HP5 := Lib.hid P5
      have HR5 := Lib.hid R5
      have HB5 := Lib.hid hb5
      clear F5 P5 R5 hb5
      obtain ⟨-, -, -, -, -, -, p6, -⟩ := spec_cells HP5.out
      go_upto_region 14 with (fail)
      go_cut [64] (fun v wx => v = .bool (!mk && !nz && (pr == 0)) ∧ wx = wc)
      case first =>
        clear HF5 HP5 HR5 HB5
        cases mk with
        | true =>
          go_wp2_with fail
          go_meet
          exact ⟨rfl, rfl⟩
        | false =>
          cases nz with
          | true =>
            go_wp2_with fail
            go_meet
            exact ⟨rfl, rfl⟩
          | false =>
            go_wp2_with fail
            go_meet
            exact ⟨rfl, rfl⟩
      case rest =>
      obtain ⟨rfl, rfl⟩ := hcut
      go_upto_if 64 with (fail)
      go_cut [] (fun wx => Five wx g #[.string SG, .string BS, .string D2] 111 ∧ Five wx B #[.bool m, .bool p, .bool b, .bool a, .bool z, .int .i64 wd, .int .i64 pr, .int .u8 (c : Int)] 35 ∧ Five wx (B + 1) #[.string ⟨#[]⟩, .string ⟨#[]⟩, .string ⟨#[]⟩] 111 ∧ Below B w wx)
      case first =>
        have hm := HM2.out
        obtain ⟨q0, q1, q2, r0, r1, r2⟩ := HF5.out.three
        cases hmn : (!mk && !nz && (pr == 0)) with
        | false =>
          rw [if_neg (by rintro ⟨e1, e2, e3⟩; rw [e1, e2, e3] at hmn; cases hmn)] at hm
          go_wp2_with fail
          go_meet
          rw [hm]
          exact ⟨HF5.out, HP5.out, HR5.out, HB5.out⟩
        | true =>
          rw [if_pos (by simpa [and_assoc] using hmn)] at hm
          go_wp2_with fail
          go_meet
          rw [hm]
          exact ⟨HF5.out.set (j := 2) (u := .string ⟨#[]⟩), HP5.out.other (by omega), HR5.out.other (by omega), HB5.out.setCell (p := ⟨g, 2, none⟩) (show B ≤ g by omega) _⟩
      case rest =>
      clear HF5 HP5 HR5 HB5 p6 hgB HM1 HM2
      obtain ⟨F5, P5, R5, hb5⟩ := hcut
      have hgB : g < wc.heap.size := F5.lt
      have hle : B ≤ wc.heap.size := by omega
      obtain ⟨-, -, -, -, -, -, p6, -⟩ := spec_cells P5
      obtain ⟨q0, q1, q2, r0, r1, r2⟩ := F5.three
      have HF5 := Lib.hid F5
      have HP5 := Lib.hid P5
      have HR5 := Lib.hid R5
      have HB5 := Lib.hid hb5
      have HCW := Lib.hid (fun (W : World) (h : Below wc.heap.size wc W) => (show W.cell? ⟨B, 6, none⟩ = some (.int .i64 pr) ∧ W.cell? ⟨g, 2, none⟩ = some (.string D2) ∧ W.frozen? ⟨g, 2, none⟩ = false from ⟨(HP5.out.below h).cell 6, (HF5.out.below h).cell 2, (HF5.out.below h).fro 2⟩))
      have hR := Below.refl wc.heap.size wc
      clear F5 P5 R5 hb5
      have hcat : ¬ 9223372036854775807 < Z.size + D2.size := by omega
      go_wp2_with fail
      go_region_with (first
        | (go_at_call 129; (with_reducible refine (CR.out _).mono ?_); rintro e W5 ⟨rfl, h5⟩; have b5 : Below wc.heap.size wc W5 := ⟨h5.os, h5.tape, h5.output, h5.size, h5.block⟩; obtain ⟨s6, s2, t2⟩ := HCW.out _ b5; clear h5))
      all_goals
        have F6 := (HF5.out.below b5).set (j := 2) (u := .string (Z ++ D2))
        have R6 := (HR5.out.below b5).other (g' := g) (j := 2) (u := .string (Z ++ D2)) (by omega)
        have hB6 := (HB5.out.trans (b5.mono hle)).setCell (p := ⟨g, 2, none⟩) (show B ≤ g by omega) (.string (Z ++ D2))
        clear s6 s2 t2 q0 q1 q2 r0 r1 r2 p6 HCW b5
        obtain ⟨W6, hW6⟩ : ∃ W6, W5.setCell ⟨g, 2, none⟩ (.string (Z ++ D2)) = W6 := ⟨_, rfl⟩
        rw [hW6] at F6 R6 hB6 ⊢
        clear hW6
        obtain ⟨q0, q1, q2, -, -, -⟩ := F6.three
        obtain ⟨u0, u1, u2, r0, r1, r2⟩ := R6.three
        have Z6 := ((R6.set (j := 0) (u := .string SG)).set (j := 1) (u := .string BS)).set (j := 2) (u := .string (Z ++ D2))
        have hB7 := ((hB6.setCell (p := ⟨B + 1, 0, none⟩) (by simp) (.string SG)).setCell (p := ⟨B + 1, 1, none⟩) (by simp) (.string BS)).setCell (p := ⟨B + 1, 2, none⟩) (by simp) (.string (Z ++ D2))
        have HZ6 := Lib.hid Z6
        have HB7 := Lib.hid hB7
        clear Z6 hB7 F6 R6 hB6 HF5 HP5 HR5 HB5
        go_wp2_with fail
        clear q0 q1 q2 u0 u1 u2 r0 r1 r2
        obtain ⟨q0, q1, q2, -, -, -⟩ := HZ6.out.three
        exact bodyPost_ret (v := .agg #[.string SG, .string BS, .string (Z ++ D2)]) (by simp [results, Tryz.results76, go_sem, q0, q1, q2]) rfl ⟨rfl, HB7.out⟩
end Go.Proofs.YtbbbdcohkfijoaaGreatDoor

namespace Go.Proofs.YtbbbdcohkfijoaaGreatDoor
open Go.RowKit Go.Lib

set_option maxRecDepth 100000 in
set_option maxHeartbeats 4000000 in
theorem number_no (m p b a z : Bool) (wd pr : Int) (c : Nat) (x : Nat) (w : World) (h : ¬ (chkB wd pr c = true ∧ vNum.contains c.toUInt8 = true)) :
    Calls Tryz.prog 25 #[.agg #[.bool m, .bool p, .bool b, .bool a, .bool z, .int .i64 wd, .int .i64 pr, .int .u8 (c : Int)], .float .f64 x] w fun e w' => e = .returned (.tuple #[.string ⟨#[]⟩, .int .i64 50]) ∧ Below w.heap.size w w' := by
  have cK := fun W => check_any m p b a z wd pr c W
  have cA := fun W => among_any ⟨#[100, 105, 111, 120, 88, 117, 101, 69, 102, 70, 103, 71]⟩ c W
  replace cA : ∀ w : World, Calls Tryz.prog 73 #[.string ⟨#[100, 105, 111, 120, 88, 117, 101, 69, 102, 70, 103, 71]⟩, .int .u8 (c : Int)] w fun e w' => e = .returned (.bool (vNum.contains c.toUInt8)) ∧ w = w' := cA
  have FP := Lib.hid (Five.new w #[.bool m, .bool p, .bool b, .bool a, .bool z, .int .i64 wd, .int .i64 pr, .int .u8 (c : Int)] 35)
  have HB0 := Lib.hid ((Below.refl w.heap.size w).alloc (Nat.le_refl _) (.cells #[.bool m, .bool p, .bool b, .bool a, .bool z, .int .i64 wd, .int .i64 pr, .int .u8 (c : Int)] 35))
  obtain ⟨W1, hW1⟩ : ∃ W1, w.alloc (.cells #[.bool m, .bool p, .bool b, .bool a, .bool z, .int .i64 wd, .int .i64 pr, .int .u8 (c : Int)] 35) = W1 := ⟨_, rfl⟩
  rw [hW1] at FP HB0
  have HW1 := Lib.hid hW1
  have hle : w.heap.size ≤ W1.heap.size := HB0.out.size
  obtain ⟨B, hB⟩ : ∃ B, w.heap.size = B := ⟨_, rfl⟩
  rw [hB] at FP HB0 hle ⊢
  obtain ⟨p0, p1, p2, p3, p4, p5, p6, p7⟩ := spec_cells FP.out
  have HB := Lib.hid hB
  by_cases hk : chkB wd pr c = true
  · rw [hk, if_pos rfl] at cK
    rw [show vNum.contains c.toUInt8 = false from by cases q : vNum.contains c.toUInt8 with | true => exact absurd ⟨hk, q⟩ h | false => rfl] at cA
    have CK := Lib.hid cK
    have CA := Lib.hid cA
    clear cK cA hW1 hB h hk
    go_enter Tryz.func25, Tryz.ntmps25
    go_wp2_with fail
    rw [HW1.out, HB.out]
    refine (CK.out _).mono ?_
    rintro e W2 ⟨rfl, h2⟩
    clear p0 p1 p2 p3 p4 p5 p6 p7
    obtain ⟨p0, p1, p2, p3, p4, p5, p6, p7⟩ := spec_cells (FP.out.below h2)
    have hBf := HB0.out.trans (h2.mono hle)
    clear h2
    go_wp2_with fail
    refine (CA.out _).mono ?_
    rintro e w' ⟨rfl, rfl⟩
    go_wp2_with fail
    go_ret2
    exact ⟨rfl, hBf⟩
  · rw [if_neg hk] at cK
    have CK := Lib.hid cK
    clear cK cA hW1 hB h hk
    go_enter Tryz.func25, Tryz.ntmps25
    go_wp2_with fail
    rw [HW1.out, HB.out]
    refine (CK.out _).mono ?_
    rintro e W2 ⟨rfl, h2⟩
    have hBf := HB0.out.trans (h2.mono hle)
    clear h2
    go_wp2_with fail
    go_ret2
    exact ⟨rfl, hBf⟩
theorem odd_len {x : Nat} {n : List UInt8} (h : oddL x = some n) : n.length = 4 := by
  unfold oddL at h
  split at h
  · cases h; rfl
  · split at h
    · cases h; rfl
    · split at h
      · cases h; rfl
      · cases h
set_option maxRecDepth 100000 in
set_option maxHeartbeats 4000000 in
theorem number_odd (m p b a z : Bool) (wd pr : Int) (c : Nat) (x : Nat) (n : List UInt8) (w : World) (hb : x < 18446744073709551616) (hk : chkB wd pr c = true) (hv : vNum.contains c.toUInt8 = true) (ho : oddL x = some n) :
    Calls Tryz.prog 25 #[.agg #[.bool m, .bool p, .bool b, .bool a, .bool z, .int .i64 wd, .int .i64 pr, .int .u8 (c : Int)], .float .f64 x] w fun e w' => e = .returned (.tuple #[.string ⟨(fillL n (wd - (n.length : Int)) m).toArray⟩, .int .i64 0]) ∧ Below w.heap.size w w' := by
  obtain ⟨d0, d1, _, _⟩ := chk_bd hk
  have hn4 := odd_len ho
  have cK := fun W => check_any m p b a z wd pr c W
  rw [hk, if_pos rfl] at cK
  have cA := fun W => among_any ⟨#[100, 105, 111, 120, 88, 117, 101, 69, 102, 70, 103, 71]⟩ c W
  replace cA : ∀ w : World, Calls Tryz.prog 73 #[.string ⟨#[100, 105, 111, 120, 88, 117, 101, 69, 102, 70, 103, 71]⟩, .int .u8 (c : Int)] w fun e w' => e = .returned (.bool (vNum.contains c.toUInt8)) ∧ w = w' := cA
  rw [hv] at cA
  have cO := fun W => boundless_any x W hb
  rw [ho] at cO
  replace cO : ∀ w : World, Calls Tryz.prog 74 #[.float .f64 x] w fun e w' => e = .returned (.tuple #[.string ⟨n.toArray⟩, .bool true]) ∧ w = w' := cO
  obtain ⟨N, hN⟩ : ∃ N : ByteArray, (⟨n.toArray⟩ : ByteArray) = N := ⟨_, rfl⟩
  have hNl : N.data.toList = n := by rw [← hN]
  have hNs : N.size = 4 := by rw [← ba_len, hNl, hn4]
  have cF := fun W => fill_any N (wd - (n.length : Int)) m W (by omega) (by omega) (by omega)
  rw [hNl] at cF
  obtain ⟨X, hX⟩ : ∃ X : ByteArray, (⟨(fillL n (wd - (n.length : Int)) m).toArray⟩ : ByteArray) = X := ⟨_, rfl⟩
  rw [hX] at cF ⊢
  rw [hN] at cO
  rw [hn4, show wd - ((4 : Nat) : Int) = wd - (N.size : Int) by omega] at cF
  have FP := Lib.hid (Five.new w #[.bool m, .bool p, .bool b, .bool a, .bool z, .int .i64 wd, .int .i64 pr, .int .u8 (c : Int)] 35)
  have HB0 := Lib.hid ((Below.refl w.heap.size w).alloc (Nat.le_refl _) (.cells #[.bool m, .bool p, .bool b, .bool a, .bool z, .int .i64 wd, .int .i64 pr, .int .u8 (c : Int)] 35))
  obtain ⟨W1, hW1⟩ : ∃ W1, w.alloc (.cells #[.bool m, .bool p, .bool b, .bool a, .bool z, .int .i64 wd, .int .i64 pr, .int .u8 (c : Int)] 35) = W1 := ⟨_, rfl⟩
  rw [hW1] at FP HB0
  have HW1 := Lib.hid hW1
  have hle : w.heap.size ≤ W1.heap.size := HB0.out.size
  obtain ⟨B, hB⟩ : ∃ B, w.heap.size = B := ⟨_, rfl⟩
  rw [hB] at FP HB0 hle ⊢
  obtain ⟨p0, p1, p2, p3, p4, p5, p6, p7⟩ := spec_cells FP.out
  have HB := Lib.hid hB
  have CK := Lib.hid cK
  have CA := Lib.hid cA
  have CO := Lib.hid cO
  have CF := Lib.hid cF
  have hNs2 : N.size ≤ 10 := by omega
  clear cK cA cO cF hW1 hB hk hv ho hb hN hNl hX hn4 hNs
  go_enter Tryz.func25, Tryz.ntmps25
  go_wp2_with fail
  rw [HW1.out, HB.out]
  refine (CK.out _).mono ?_
  rintro e W2 ⟨rfl, h2⟩
  clear p0 p1 p2 p3 p4 p5 p6 p7
  obtain ⟨p0, p1, p2, p3, p4, p5, p6, p7⟩ := spec_cells (FP.out.below h2)
  have HB2 := Lib.hid (HB0.out.trans (h2.mono hle))
  have hle2 : B ≤ W2.heap.size := Nat.le_trans hle h2.size
  clear h2
  go_wp2_with fail
  refine (CA.out _).mono ?_
  rintro e w' ⟨rfl, rfl⟩
  go_wp2_with fail
  refine (CO.out _).mono ?_
  rintro e w' ⟨rfl, rfl⟩
  go_wp2_with fail
  refine (CF.out _).mono ?_
  rintro e W3 ⟨rfl, h3⟩
  have hBf := HB2.out.trans (h3.mono hle2)
  clear h3
  go_wp2_with fail
  go_ret2
  exact ⟨rfl, hBf⟩
end Go.Proofs.YtbbbdcohkfijoaaGreatDoor

namespace Go.Proofs.YtbbbdcohkfijoaaGreatDoor
open Go.RowKit Go.Lib

theorem ba_mk_app (l k : List UInt8) : (⟨l.toArray⟩ : ByteArray) ++ ⟨k.toArray⟩ = ⟨(l ++ k).toArray⟩ := by
  apply ByteArray.ext
  apply Array.toList_inj.1
  rw [ByteArray.data_append, Array.toList_append]
theorem ba_mk_size (l : List UInt8) : (⟨l.toArray⟩ : ByteArray).size = l.length := by
  rw [← ba_len]
theorem whole_verbs {c : Nat} (_hc : c < 256) (_hv : vWhole.contains c.toUInt8 = true) : c = 111 ∨ (c = 120 ∨ c = 88) ∨ (c ≠ 111 ∧ c ≠ 120 ∧ c ≠ 88) := by omega
theorem whole_any (m p b a z : Bool) (wd pr : Int) (c x : Nat) (w : World) (hb : x < 18446744073709551616) (h : mag x < 9218868437227405312) (h0 : -1 ≤ pr) (h1 : pr ≤ 190) (hc : c < 256) (hv : vWhole.contains c.toUInt8 = true) :
    Calls Tryz.prog 76 #[.agg #[.bool m, .bool p, .bool b, .bool a, .bool z, .int .i64 wd, .int .i64 pr, .int .u8 (c : Int)], .float .f64 (sgn x + truncR (mag x))] w fun e w' => e = .returned (.agg #[.string ⟨(signL p b c (lowB x)).toArray⟩, .string ⟨(whB (truncR (mag x)) c a).toArray⟩, .string ⟨(whD (truncR (mag x)) pr a c).toArray⟩]) ∧ Below w.heap.size w w' := by
  have ht := truncR_fin h
  have hm : mag (sgn x + truncR (mag x)) = truncR (mag x) := sgn_add_mag (by omega)
  have hb2 : sgn x + truncR (mag x) < 18446744073709551616 := by unfold sgn; omega
  have hlo := low_is hb h
  have hnz := nzero_is (x := sgn x + truncR (mag x)) (by rw [hm]; exact ht)
  have hez := zero_is (x := sgn x + truncR (mag x)) (by rw [hm]; exact ht)
  rw [hm] at hnz hez
  have C3 := fun W => inBase_any (sgn x + truncR (mag x)) 3 W hb2 (by rw [hm]; exact ht) (Or.inl rfl)
  have C4 := fun W => inBase_any (sgn x + truncR (mag x)) 4 W hb2 (by rw [hm]; exact ht) (Or.inr rfl)
  have CX := fun W => fixed_yes (sgn x + truncR (mag x)) 0 W hb2 (by rw [hm]; exact ht) (by omega)
  rw [hm] at C3 C4 CX
  have CS := fun W => sign_any m p b a z wd pr c (lowB x) W
  clear hm
  obtain ⟨r, hr⟩ : ∃ r, truncR (mag x) = r := ⟨_, rfl⟩
  obtain ⟨X, hX⟩ : ∃ X, sgn x + truncR (mag x) = X := ⟨_, rfl⟩
  rw [hX] at hlo hnz hez C3 C4 CX hb2 ⊢
  rw [hr] at hnz hez C3 C4 CX ht ⊢
  clear hX hr
  have l2 := whD2_len ht pr a c
  have l0 := whD0_len ht c
  have k := whole_core m p b a z wd pr c X (lowB x) (decide (r ≠ 0)) ⟨(signL p b c (lowB x)).toArray⟩ ⟨(whD0 r c).toArray⟩ ⟨(whB r c a).toArray⟩ ⟨(whD1 r a c).toArray⟩ ⟨(whD2 r pr a c).toArray⟩ w h0 h1 hlo hnz (by rw [hez]; by_cases q : r = 0 <;> simp [q]) CS
    (by
      rcases whole_verbs hc hv with e | e | e
      · refine Or.inl ⟨e, fun W => ?_⟩
        have e2 : whD0 r c = ibT (manF r) (expF r) 3 := by unfold whD0; rw [if_pos e]
        rw [e2]; exact C3 W
      · refine Or.inr (Or.inl ⟨e, fun W => ?_⟩)
        have e2 : whD0 r c = ibT (manF r) (expF r) 4 := by unfold whD0; rw [if_neg (by omega), if_pos e]
        rw [e2]; exact C4 W
      · refine Or.inr (Or.inr ⟨e, fun W => ?_⟩)
        have e2 : whD0 r c = fixT (decs (rnd (amN r * 10 ^ 0) (amD r))) 0 := by unfold whD0; rw [if_neg e.1, if_neg (by omega)]
        rw [e2]; exact CX W)
    (by unfold whB; by_cases q : r = 0 <;> simp [q] <;> split <;> simp_all)
    (by
      unfold whD1
      by_cases q : c = 111 ∧ a = true ∧ r ≠ 0
      · rw [if_pos q, if_pos ⟨q.1, q.2.1, by rw [decide_eq_true q.2.2]⟩]
        exact (ba_mk_app [48] (whD0 r c)).symm
      · rw [if_neg q, if_neg (fun k => q ⟨k.1, k.2.1, of_decide_eq_true k.2.2⟩)])
    (by
      unfold whD2
      by_cases q : ¬ (c = 111 ∧ a = true) ∧ r = 0 ∧ pr = 0
      · rw [if_pos q, if_pos ⟨q.1, by rw [decide_eq_false (by simpa using q.2.1)], q.2.2⟩]
      · rw [if_neg q, if_neg (fun k => q ⟨k.1, by have := of_decide_eq_false k.2.1; omega, k.2.2⟩)])
    (by rw [ba_mk_size]; omega) (by rw [ba_mk_size]; omega)
  refine k.mono ?_
  rintro e w' ⟨rfl, hB⟩
  refine ⟨?_, hB⟩
  rw [ba_mk_size, ba_mk_app]
  rfl
end Go.Proofs.YtbbbdcohkfijoaaGreatDoor

namespace Go.Proofs.YtbbbdcohkfijoaaGreatDoor
open Go.RowKit Go.Lib

theorem capL_len (c : Nat) (l : List UInt8) : (capL c l).length = l.length := by
  unfold capL
  split
  · exact upper_len _
  · rfl
set_option maxRecDepth 100000 in
set_option maxHeartbeats 8000000 in
theorem number_whole_true (m p b a : Bool) (wd pr : Int) (c : Nat) (x : Nat) (w : World) (hc : c < 256) (hb : x < 18446744073709551616) (h : mag x < 9218868437227405312) (hk : chkB wd pr c = true) (hv : vNum.contains c.toUInt8 = true) (hw : vWhole.contains c.toUInt8 = true) :
    Calls Tryz.prog 25 #[.agg #[.bool m, .bool p, .bool b, .bool a, .bool true, .int .i64 wd, .int .i64 pr, .int .u8 (c : Int)], .float .f64 x] w fun e w' => e = .returned (.tuple #[.string ⟨(wholeL m p b a true wd pr c x).toArray⟩, .int .i64 0]) ∧ Below w.heap.size w w' := by
  obtain ⟨d0, d1, d2, d3⟩ := chk_bd hk
  have cK := fun W => check_any m p b a true wd pr c W
  rw [hk, if_pos rfl] at cK
  have cA := fun W => among_any ⟨#[100, 105, 111, 120, 88, 117, 101, 69, 102, 70, 103, 71]⟩ c W
  replace cA : ∀ w : World, Calls Tryz.prog 73 #[.string ⟨#[100, 105, 111, 120, 88, 117, 101, 69, 102, 70, 103, 71]⟩, .int .u8 (c : Int)] w fun e w' => e = .returned (.bool (vNum.contains c.toUInt8)) ∧ w = w' := cA
  rw [hv] at cA
  have cW := fun W => among_any ⟨#[100, 105, 111, 120, 88, 117]⟩ c W
  replace cW : ∀ w : World, Calls Tryz.prog 73 #[.string ⟨#[100, 105, 111, 120, 88, 117]⟩, .int .u8 (c : Int)] w fun e w' => e = .returned (.bool (vWhole.contains c.toUInt8)) ∧ w = w' := cW
  rw [hw] at cW
  have cO := fun W => boundless_any x W hb
  rw [odd_none h] at cO
  replace cO : ∀ w : World, Calls Tryz.prog 74 #[.float .f64 x] w fun e w' => e = .returned (.tuple #[.string ⟨#[]⟩, .bool false]) ∧ w = w' := cO
  have cT := fun W => numTrunc_fin x W hb h
  have cP := fun W => whole_any m p b a true wd pr c x W hb h d2 d3 hc hw
  have ht := truncR_fin h
  have l2 := whD_len ht d3 a c
  have l3 := whB_len (truncR (mag x)) c a
  have a2 := whD_asc (r := truncR (mag x)) pr a c
  have a3 := whB_asc (truncR (mag x)) c a
  obtain ⟨X, hX⟩ : ∃ X : ByteArray, (⟨(wholeL m p b a true wd pr c x).toArray⟩ : ByteArray) = X := ⟨_, rfl⟩
  have hX2 := hX
  unfold wholeL at hX2
  obtain ⟨DL, hDL⟩ : ∃ l, whD (truncR (mag x)) pr a c = l := ⟨_, rfl⟩
  obtain ⟨BL, hBL⟩ : ∃ l, whB (truncR (mag x)) c a = l := ⟨_, rfl⟩
  rw [hDL] at cP l2 a2 hX2
  rw [hBL] at cP l3 a3 hX2
  obtain ⟨Y, hY⟩ : ∃ Y, sgn x + truncR (mag x) = Y := ⟨_, rfl⟩
  rw [hY] at cP cT
  obtain ⟨SG, hSG⟩ : ∃ SG : ByteArray, (⟨(signL p b c (lowB x)).toArray⟩ : ByteArray) = SG := ⟨_, rfl⟩
  obtain ⟨D, hD⟩ : ∃ D : ByteArray, (⟨DL.toArray⟩ : ByteArray) = D := ⟨_, rfl⟩
  obtain ⟨BS, hBS⟩ : ∃ D : ByteArray, (⟨BL.toArray⟩ : ByteArray) = D := ⟨_, rfl⟩
  have hSl : SG.data.toList = signL p b c (lowB x) := by rw [← hSG]
  have hDl : D.data.toList = DL := by rw [← hD]
  have hBl : BS.data.toList = BL := by rw [← hBS]
  have s1 : SG.size ≤ 10 := by rw [← ba_len, hSl]; exact Nat.le_trans (sgn_len _ _ _ _) (by omega)
  have s2 : BS.size ≤ 10 := by rw [← ba_len, hBl]; omega
  have s3 : D.size ≤ 20000 := by rw [← ba_len, hDl]; omega
  rw [hSG, hD, hBS] at cP
  have cQ := fun W => padded_core m p b a true wd pr c (true && decide (pr < 0)) SG BS D ⟨(capL c BL).toArray⟩ ⟨(capL c DL).toArray⟩ X W (by omega) (by omega) s1 s2 s3 (by rw [hBl]; exact a3) (by rw [hDl]; exact a2) (by
    unfold capL
    split
    · exact ⟨by rw [hBl], by rw [hDl]⟩
    · exact ⟨hBS, hD⟩) (by rw [← hX2, hSl])
  unfold PadEnd at cQ
  rw [Bool.true_and] at cQ
  rw [hX]
  have CK := Lib.hid cK
  have CA := Lib.hid cA
  have CW := Lib.hid cW
  have CO := Lib.hid cO
  have CT := Lib.hid cT
  have CP := Lib.hid cP
  have CQ := Lib.hid cQ
  have FP := Lib.hid (Five.new w #[.bool m, .bool p, .bool b, .bool a, .bool true, .int .i64 wd, .int .i64 pr, .int .u8 (c : Int)] 35)
  have HB0 := Lib.hid ((Below.refl w.heap.size w).alloc (Nat.le_refl _) (.cells #[.bool m, .bool p, .bool b, .bool a, .bool true, .int .i64 wd, .int .i64 pr, .int .u8 (c : Int)] 35))
  obtain ⟨W1, hW1⟩ : ∃ W1, w.alloc (.cells #[.bool m, .bool p, .bool b, .bool a, .bool true, .int .i64 wd, .int .i64 pr, .int .u8 (c : Int)] 35) = W1 := ⟨_, rfl⟩
  rw [hW1] at FP HB0
  have HW1 := Lib.hid hW1
  clear cK cA cW cO cT cP cQ hW1 hX hX2 hSG hD hSl hDl hBS hBl hDL hBL hY s1 s2 s3 hk hv hw h hb d0 d1 d2 d3 l2 l3 a2 a3 ht hc
  have hle : w.heap.size ≤ W1.heap.size := HB0.out.size
  obtain ⟨B, hB⟩ : ∃ B, w.heap.size = B := ⟨_, rfl⟩
  rw [hB] at FP HB0 hle ⊢
  obtain ⟨p0, p1, p2, p3, p4, p5, p6, p7⟩ := spec_cells FP.out
  have HB := Lib.hid hB
  clear hB
  go_enter Tryz.func25, Tryz.ntmps25
  go_wp2_with fail
  rw [HW1.out, HB.out]
  refine (CK.out _).mono ?_
  rintro e W2 ⟨rfl, h2⟩
  clear p0 p1 p2 p3 p4 p5 p6 p7
  obtain ⟨p0, p1, p2, p3, p4, p5, p6, p7⟩ := spec_cells (FP.out.below h2)
  have FP2 := Lib.hid (FP.out.below h2)
  have HB2 := Lib.hid (HB0.out.trans (h2.mono hle))
  have hle2 : B ≤ W2.heap.size := Nat.le_trans hle h2.size
  clear h2
  go_wp2_with fail
  refine (CA.out _).mono ?_
  rintro e w' ⟨rfl, rfl⟩
  go_wp2_with fail
  refine (CO.out _).mono ?_
  rintro e w' ⟨rfl, rfl⟩
  go_wp2_with fail
  refine (CW.out _).mono ?_
  rintro e w' ⟨rfl, rfl⟩
  go_wp2_with fail
  have HCW := Lib.hid (fun (W : World) (h : Below W2.heap.size W2 W) => spec_cells (FP2.out.below h))
  have hR := Below.refl W2.heap.size W2
  go_region_held3 (fun w' => w'.cell? ⟨B, 0, none⟩ = some (.bool m) ∧ w'.cell? ⟨B, 1, none⟩ = some (.bool p) ∧ w'.cell? ⟨B, 2, none⟩ = some (.bool b) ∧ w'.cell? ⟨B, 3, none⟩ = some (.bool a) ∧ w'.cell? ⟨B, 4, none⟩ = some (.bool true) ∧ w'.cell? ⟨B, 5, none⟩ = some (.int .i64 wd) ∧ w'.cell? ⟨B, 6, none⟩ = some (.int .i64 pr) ∧ w'.cell? ⟨B, 7, none⟩ = some (.int .u8 (c : Int)))
      (first | (with_reducible exact S2) | (with_reducible exact S1) | go_keep)
      (first
      | (go_at_call 20; (with_reducible refine (CT.out _).mono ?_); rintro e W3 ⟨rfl, rfl⟩)
      | (go_at_call 76; (with_reducible refine (CP.out _).mono ?_); rintro e W3 ⟨rfl, h3⟩; have b3 : Below W2.heap.size W2 W3 := ⟨h3.os, h3.tape, h3.output, h3.size, h3.block⟩; have S1 := HCW.out _ b3; clear h3)
      | (go_at_call 77; (with_reducible refine (CQ.out _).mono ?_); rintro e W4 ⟨rfl, h4⟩; have b4 : Below W2.heap.size W2 W4 := b3.trans ((⟨h4.os, h4.tape, h4.output, h4.size, h4.block⟩ : Below W3.heap.size W3 W4).mono b3.size); have S2 := HCW.out _ b4; clear h4))
  all_goals
    have hBf := HB2.out.trans (b4.mono hle2)
    go_wp2_with fail
    go_ret2
    exact ⟨rfl, by first | exact hBf | exact ⟨hBf.os, hBf.tape, hBf.output, hBf.size, hBf.block⟩⟩

set_option maxRecDepth 100000 in
set_option maxHeartbeats 8000000 in
theorem number_whole_false (m p b a : Bool) (wd pr : Int) (c : Nat) (x : Nat) (w : World) (hc : c < 256) (hb : x < 18446744073709551616) (h : mag x < 9218868437227405312) (hk : chkB wd pr c = true) (hv : vNum.contains c.toUInt8 = true) (hw : vWhole.contains c.toUInt8 = true) :
    Calls Tryz.prog 25 #[.agg #[.bool m, .bool p, .bool b, .bool a, .bool false, .int .i64 wd, .int .i64 pr, .int .u8 (c : Int)], .float .f64 x] w fun e w' => e = .returned (.tuple #[.string ⟨(wholeL m p b a false wd pr c x).toArray⟩, .int .i64 0]) ∧ Below w.heap.size w w' := by
  obtain ⟨d0, d1, d2, d3⟩ := chk_bd hk
  have cK := fun W => check_any m p b a false wd pr c W
  rw [hk, if_pos rfl] at cK
  have cA := fun W => among_any ⟨#[100, 105, 111, 120, 88, 117, 101, 69, 102, 70, 103, 71]⟩ c W
  replace cA : ∀ w : World, Calls Tryz.prog 73 #[.string ⟨#[100, 105, 111, 120, 88, 117, 101, 69, 102, 70, 103, 71]⟩, .int .u8 (c : Int)] w fun e w' => e = .returned (.bool (vNum.contains c.toUInt8)) ∧ w = w' := cA
  rw [hv] at cA
  have cW := fun W => among_any ⟨#[100, 105, 111, 120, 88, 117]⟩ c W
  replace cW : ∀ w : World, Calls Tryz.prog 73 #[.string ⟨#[100, 105, 111, 120, 88, 117]⟩, .int .u8 (c : Int)] w fun e w' => e = .returned (.bool (vWhole.contains c.toUInt8)) ∧ w = w' := cW
  rw [hw] at cW
  have cO := fun W => boundless_any x W hb
  rw [odd_none h] at cO
  replace cO : ∀ w : World, Calls Tryz.prog 74 #[.float .f64 x] w fun e w' => e = .returned (.tuple #[.string ⟨#[]⟩, .bool false]) ∧ w = w' := cO
  have cT := fun W => numTrunc_fin x W hb h
  have cP := fun W => whole_any m p b a false wd pr c x W hb h d2 d3 hc hw
  have ht := truncR_fin h
  have l2 := whD_len ht d3 a c
  have l3 := whB_len (truncR (mag x)) c a
  have a2 := whD_asc (r := truncR (mag x)) pr a c
  have a3 := whB_asc (truncR (mag x)) c a
  obtain ⟨X, hX⟩ : ∃ X : ByteArray, (⟨(wholeL m p b a false wd pr c x).toArray⟩ : ByteArray) = X := ⟨_, rfl⟩
  have hX2 := hX
  unfold wholeL at hX2
  obtain ⟨DL, hDL⟩ : ∃ l, whD (truncR (mag x)) pr a c = l := ⟨_, rfl⟩
  obtain ⟨BL, hBL⟩ : ∃ l, whB (truncR (mag x)) c a = l := ⟨_, rfl⟩
  rw [hDL] at cP l2 a2 hX2
  rw [hBL] at cP l3 a3 hX2
  obtain ⟨Y, hY⟩ : ∃ Y, sgn x + truncR (mag x) = Y := ⟨_, rfl⟩
  rw [hY] at cP cT
  obtain ⟨SG, hSG⟩ : ∃ SG : ByteArray, (⟨(signL p b c (lowB x)).toArray⟩ : ByteArray) = SG := ⟨_, rfl⟩
  obtain ⟨D, hD⟩ : ∃ D : ByteArray, (⟨DL.toArray⟩ : ByteArray) = D := ⟨_, rfl⟩
  obtain ⟨BS, hBS⟩ : ∃ D : ByteArray, (⟨BL.toArray⟩ : ByteArray) = D := ⟨_, rfl⟩
  have hSl : SG.data.toList = signL p b c (lowB x) := by rw [← hSG]
  have hDl : D.data.toList = DL := by rw [← hD]
  have hBl : BS.data.toList = BL := by rw [← hBS]
  have s1 : SG.size ≤ 10 := by rw [← ba_len, hSl]; exact Nat.le_trans (sgn_len _ _ _ _) (by omega)
  have s2 : BS.size ≤ 10 := by rw [← ba_len, hBl]; omega
  have s3 : D.size ≤ 20000 := by rw [← ba_len, hDl]; omega
  rw [hSG, hD, hBS] at cP
  have cQ := fun W => padded_core m p b a false wd pr c (false && decide (pr < 0)) SG BS D ⟨(capL c BL).toArray⟩ ⟨(capL c DL).toArray⟩ X W (by omega) (by omega) s1 s2 s3 (by rw [hBl]; exact a3) (by rw [hDl]; exact a2) (by
    unfold capL
    split
    · exact ⟨by rw [hBl], by rw [hDl]⟩
    · exact ⟨hBS, hD⟩) (by rw [← hX2, hSl])
  unfold PadEnd at cQ
  rw [Bool.false_and] at cQ
  rw [hX]
  have CK := Lib.hid cK
  have CA := Lib.hid cA
  have CW := Lib.hid cW
  have CO := Lib.hid cO
  have CT := Lib.hid cT
  have CP := Lib.hid cP
  have CQ := Lib.hid cQ
  have FP := Lib.hid (Five.new w #[.bool m, .bool p, .bool b, .bool a, .bool false, .int .i64 wd, .int .i64 pr, .int .u8 (c : Int)] 35)
  have HB0 := Lib.hid ((Below.refl w.heap.size w).alloc (Nat.le_refl _) (.cells #[.bool m, .bool p, .bool b, .bool a, .bool false, .int .i64 wd, .int .i64 pr, .int .u8 (c : Int)] 35))
  obtain ⟨W1, hW1⟩ : ∃ W1, w.alloc (.cells #[.bool m, .bool p, .bool b, .bool a, .bool false, .int .i64 wd, .int .i64 pr, .int .u8 (c : Int)] 35) = W1 := ⟨_, rfl⟩
  rw [hW1] at FP HB0
  have HW1 := Lib.hid hW1
  clear cK cA cW cO cT cP cQ hW1 hX hX2 hSG hD hSl hDl hBS hBl hDL hBL hY s1 s2 s3 hk hv hw h hb d0 d1 d2 d3 l2 l3 a2 a3 ht hc
  have hle : w.heap.size ≤ W1.heap.size := HB0.out.size
  obtain ⟨B, hB⟩ : ∃ B, w.heap.size = B := ⟨_, rfl⟩
  rw [hB] at FP HB0 hle ⊢
  obtain ⟨p0, p1, p2, p3, p4, p5, p6, p7⟩ := spec_cells FP.out
  have HB := Lib.hid hB
  clear hB
  go_enter Tryz.func25, Tryz.ntmps25
  go_wp2_with fail
  rw [HW1.out, HB.out]
  refine (CK.out _).mono ?_
  rintro e W2 ⟨rfl, h2⟩
  clear p0 p1 p2 p3 p4 p5 p6 p7
  obtain ⟨p0, p1, p2, p3, p4, p5, p6, p7⟩ := spec_cells (FP.out.below h2)
  have FP2 := Lib.hid (FP.out.below h2)
  have HB2 := Lib.hid (HB0.out.trans (h2.mono hle))
  have hle2 : B ≤ W2.heap.size := Nat.le_trans hle h2.size
  clear h2
  go_wp2_with fail
  refine (CA.out _).mono ?_
  rintro e w' ⟨rfl, rfl⟩
  go_wp2_with fail
  refine (CO.out _).mono ?_
  rintro e w' ⟨rfl, rfl⟩
  go_wp2_with fail
  refine (CW.out _).mono ?_
  rintro e w' ⟨rfl, rfl⟩
  go_wp2_with fail
  have HCW := Lib.hid (fun (W : World) (h : Below W2.heap.size W2 W) => spec_cells (FP2.out.below h))
  have hR := Below.refl W2.heap.size W2
  refine wp_region_noPanic ?_
  refine wp_region_held_drew (S := (fun w' => w'.cell? ⟨B, 0, none⟩ = some (.bool m) ∧ w'.cell? ⟨B, 1, none⟩ = some (.bool p) ∧ w'.cell? ⟨B, 2, none⟩ = some (.bool b) ∧ w'.cell? ⟨B, 3, none⟩ = some (.bool a) ∧ w'.cell? ⟨B, 4, none⟩ = some (.bool false) ∧ w'.cell? ⟨B, 5, none⟩ = some (.int .i64 wd) ∧ w'.cell? ⟨B, 6, none⟩ = some (.int .i64 pr) ∧ w'.cell? ⟨B, 7, none⟩ = some (.int .u8 (c : Int)))) (by kernel_rfl) (⟨p0, p1, p2, p3, p4, p5, p6, p7⟩) (fun hHeld => ?_)
  refine wpAnyH_take (i := 0) (oi := ({ dst := some 35, op := Op.load 35 (Operand.tmp 2), type := 35, pos := "format.go:69", after := #[], guard := none } : Oper)) (v := ?_) rfl (by kernel_rfl) (by kernel_rfl) (by kernel_rfl) (fun _ _ _ h => h) (Or.inl ⟨by rfl, ?_⟩) (by assumption) ?_
  rotate_left
  · intro w' hSw
    try dsimp only at hSw
    go_simp
    try with_reducible rfl
  try simp only [Act.put, List.setIfInBounds_toArray, List.set_cons_zero, List.set_cons_succ]
  refine wpAnyH_take (i := 1) (oi := ({ dst := some 36, op := Op.move (Operand.tmp 1), type := 24, pos := "format.go:69", after := #[], guard := none } : Oper)) (v := ?_) rfl (by kernel_rfl) (by kernel_rfl) (by kernel_rfl) (fun _ _ _ h => h) (Or.inl ⟨by rfl, ?_⟩) (by assumption) ?_
  rotate_left
  · intro w' hSw
    try dsimp only at hSw
    go_simp
    try with_reducible rfl
  try simp only [Act.put, List.setIfInBounds_toArray, List.set_cons_zero, List.set_cons_succ]
  refine wpAnyH_take (i := 4) (oi := ({ dst := some 39, op := Op.load 35 (Operand.tmp 2), type := 35, pos := "format.go:69", after := #[], guard := none } : Oper)) (v := ?_) rfl (by kernel_rfl) (by kernel_rfl) (by kernel_rfl) (fun _ _ _ h => h) (Or.inl ⟨by rfl, ?_⟩) (by assumption) ?_
  rotate_left
  · intro w' hSw
    try dsimp only at hSw
    go_simp
    try with_reducible rfl
  try simp only [Act.put, List.setIfInBounds_toArray, List.set_cons_zero, List.set_cons_succ]
  refine wpAnyH_take (i := 5) (oi := ({ dst := some 40, op := Op.fieldAddr 35 (Operand.tmp 2) 4, type := 0, pos := "format.go:69", after := #[], guard := none } : Oper)) (v := ?_) rfl (by kernel_rfl) (by kernel_rfl) (by kernel_rfl) (fun _ _ _ h => h) (Or.inl ⟨by rfl, ?_⟩) (by assumption) ?_
  rotate_left
  · intro w' hSw
    try dsimp only at hSw
    go_simp
    try with_reducible rfl
  try simp only [Act.put, List.setIfInBounds_toArray, List.set_cons_zero, List.set_cons_succ]
  refine wpAnyH_take (i := 6) (oi := ({ dst := some 41, op := Op.load 4 (Operand.tmp 40), type := 4, pos := "format.go:69", after := #[{ on := 5, ground := Ground.data }], guard := none } : Oper)) (v := ?_) rfl (by kernel_rfl) (by kernel_rfl) (by kernel_rfl) (fun _ _ _ h => h) (Or.inl ⟨by rfl, ?_⟩) (by assumption) ?_
  rotate_left
  · intro w' hSw
    try dsimp only at hSw
    go_simp
    try with_reducible rfl
  try simp only [Act.put, List.setIfInBounds_toArray, List.set_cons_zero, List.set_cons_succ]
  refine wpAnyH_ready (rs := [2]) (by kernel_rfl) (by simp) ?_
  refine AllReadyH.cons (o := ({ dst := some 37, op := Op.call { callee := Callee.value (Operand.func 20), args := #[Operand.tmp 36], argTypes := #[24] }, type := 24, pos := "format.go:69", after := #[{ on := 1, ground := Ground.data }], guard := none } : Oper)) rfl (fun K hK => ?_) AllReadyH.nil
  go_simp
  refine (CT.out _).mono ?_
  rintro e W3 ⟨rfl, rfl⟩
  go_wp2_with fail
  refine hK.out _ _ (hHeld) (fun hHeld => ?_)
  clear hK K
  try simp only [Act.put, List.setIfInBounds_toArray, List.set_cons_zero, List.set_cons_succ]
  refine wpAnyH_ready (rs := [3]) (by kernel_rfl) (by simp) ?_
  refine AllReadyH.cons (o := ({ dst := some 38, op := Op.call { callee := Callee.value (Operand.func 76), args := #[Operand.tmp 35, Operand.tmp 37], argTypes := #[35, 24] }, type := 111, pos := "format.go:69", after := #[{ on := 0, ground := Ground.data }, { on := 2, ground := Ground.data }, { on := 2, ground := Ground.chain }], guard := none } : Oper)) rfl (fun K hK => ?_) AllReadyH.nil
  go_simp
  refine (CP.out _).mono ?_
  rintro e W3 ⟨rfl, h3⟩
  have b3 : Below W2.heap.size W2 W3 := ⟨h3.os, h3.tape, h3.output, h3.size, h3.block⟩
  have S1 := HCW.out _ b3
  clear h3
  go_wp2_with fail
  refine hK.out _ _ (S1) (fun hHeld => ?_)
  clear hK K
  try simp only [Act.put, List.setIfInBounds_toArray, List.set_cons_zero, List.set_cons_succ]
  refine wpAnyH_take (i := 7) (oi := ({ dst := some 42, op := Op.move (Operand.tmp 41), type := 4, pos := "format.go:69", after := #[{ on := 6, ground := Ground.data }, { on := 3, ground := Ground.chain }], guard := none } : Oper)) (v := ?_) rfl (by kernel_rfl) (by kernel_rfl) (by kernel_rfl) (fun _ _ _ h => h) (Or.inl ⟨by rfl, ?_⟩) (by assumption) ?_
  rotate_left
  · intro w' hSw
    try dsimp only at hSw
    go_simp
    try with_reducible rfl
  try simp only [Act.put, List.setIfInBounds_toArray, List.set_cons_zero, List.set_cons_succ]
  refine wpAnyH_take (i := 8) (oi := ({ dst := some 43, op := Op.fieldAddr 35 (Operand.tmp 2) 6, type := 0, pos := "format.go:69", after := #[{ on := 7, ground := Ground.guard }], guard := some (7, true) } : Oper)) (v := undef) rfl (by kernel_rfl) (by kernel_rfl) (by kernel_rfl) (fun _ _ _ h => h) (Or.inr ⟨by rfl, rfl⟩) (by assumption) ?_
  try simp only [Act.put, List.setIfInBounds_toArray, List.set_cons_zero, List.set_cons_succ]
  refine wpAnyH_take (i := 9) (oi := ({ dst := some 44, op := Op.load 3 (Operand.tmp 43), type := 3, pos := "format.go:69", after := #[{ on := 8, ground := Ground.data }, { on := 7, ground := Ground.guard }], guard := some (7, true) } : Oper)) (v := undef) rfl (by kernel_rfl) (by kernel_rfl) (by kernel_rfl) (fun _ _ _ h => h) (Or.inr ⟨by rfl, rfl⟩) (by assumption) ?_
  try simp only [Act.put, List.setIfInBounds_toArray, List.set_cons_zero, List.set_cons_succ]
  refine wpAnyH_take (i := 10) (oi := ({ dst := some 45, op := Op.binOp BinOp.lss 3 (Operand.tmp 44) (Operand.const (Value.int IntKind.i64 0)) 3, type := 4, pos := "format.go:69", after := #[{ on := 9, ground := Ground.data }, { on := 7, ground := Ground.guard }], guard := some (7, true) } : Oper)) (v := undef) rfl (by kernel_rfl) (by kernel_rfl) (by kernel_rfl) (fun _ _ _ h => h) (Or.inr ⟨by rfl, rfl⟩) (by assumption) ?_
  try simp only [Act.put, List.setIfInBounds_toArray, List.set_cons_zero, List.set_cons_succ]
  refine wpAnyH_take (i := 11) (oi := ({ dst := some 46, op := Op.pick (Operand.tmp 42) (Operand.tmp 45) (Operand.const (Value.bool false)), type := 4, pos := "format.go:69", after := #[{ on := 7, ground := Ground.data }, { on := 10, ground := Ground.data }], guard := none } : Oper)) (v := ?_) rfl (by kernel_rfl) (by kernel_rfl) (by kernel_rfl) (fun _ _ _ h => h) (Or.inl ⟨by rfl, ?_⟩) (by assumption) ?_
  rotate_left
  · intro w' hSw
    try dsimp only at hSw
    go_simp
    try with_reducible rfl
  try simp only [Act.put, List.setIfInBounds_toArray, List.set_cons_zero, List.set_cons_succ]
  refine wpAnyH_ready (rs := [12]) (by kernel_rfl) (by simp) ?_
  refine AllReadyH.cons (o := ({ dst := some 47, op := Op.call { callee := Callee.value (Operand.func 77), args := #[Operand.tmp 38, Operand.tmp 39, Operand.tmp 46], argTypes := #[111, 35, 4] }, type := 9, pos := "format.go:69", after := #[{ on := 3, ground := Ground.data }, { on := 4, ground := Ground.data }, { on := 11, ground := Ground.data }, { on := 7, ground := Ground.chain }], guard := none } : Oper)) rfl (fun K hK => ?_) AllReadyH.nil
  go_simp
  refine (CQ.out _).mono ?_
  rintro e W4 ⟨rfl, h4⟩
  have b4 : Below W2.heap.size W2 W4 := b3.trans ((⟨h4.os, h4.tape, h4.output, h4.size, h4.block⟩ : Below W3.heap.size W3 W4).mono b3.size)
  have S2 := HCW.out _ b4
  clear h4
  go_wp2_with fail
  refine hK.out _ _ (S2) (fun hHeld => ?_)
  clear hK K
  try simp only [Act.put, List.setIfInBounds_toArray, List.set_cons_zero, List.set_cons_succ]
  refine wpAnyH_take (i := 13) (oi := ({ dst := some 4, op := Op.assign (Operand.tmp 47), type := 9, pos := "format.go:69", after := #[{ on := 12, ground := Ground.data }, { on := 12, ground := Ground.chain }, { on := 0, ground := Ground.phase }, { on := 1, ground := Ground.phase }, { on := 2, ground := Ground.phase }, { on := 3, ground := Ground.phase }, { on := 4, ground := Ground.phase }, { on := 5, ground := Ground.phase }, { on := 6, ground := Ground.phase }, { on := 7, ground := Ground.phase }, { on := 8, ground := Ground.phase }, { on := 9, ground := Ground.phase }, { on := 10, ground := Ground.phase }, { on := 11, ground := Ground.phase }, { on := 12, ground := Ground.phase }], guard := none } : Oper)) (v := ?_) rfl (by kernel_rfl) (by kernel_rfl) (by kernel_rfl) (fun _ _ _ h => h) (Or.inl ⟨by rfl, ?_⟩) (by assumption) ?_
  rotate_left
  · intro w' hSw
    try dsimp only at hSw
    go_simp
    try with_reducible rfl
  try simp only [Act.put, List.setIfInBounds_toArray, List.set_cons_zero, List.set_cons_succ]
  refine wpAnyH_take (i := 14) (oi := ({ dst := some 5, op := Op.assign (Operand.const (Value.int IntKind.i64 0)), type := 36, pos := "format.go:69", after := #[{ on := 13, ground := Ground.chain }, { on := 0, ground := Ground.phase }, { on := 1, ground := Ground.phase }, { on := 2, ground := Ground.phase }, { on := 3, ground := Ground.phase }, { on := 4, ground := Ground.phase }, { on := 5, ground := Ground.phase }, { on := 6, ground := Ground.phase }, { on := 7, ground := Ground.phase }, { on := 8, ground := Ground.phase }, { on := 9, ground := Ground.phase }, { on := 10, ground := Ground.phase }, { on := 11, ground := Ground.phase }, { on := 12, ground := Ground.phase }, { on := 13, ground := Ground.phase }], guard := none } : Oper)) (v := ?_) rfl (by kernel_rfl) (by kernel_rfl) (by kernel_rfl) (fun _ _ _ h => h) (Or.inl ⟨by rfl, ?_⟩) (by assumption) ?_
  rotate_left
  · intro w' hSw
    try dsimp only at hSw
    go_simp
    try with_reducible rfl
  try simp only [Act.put, List.setIfInBounds_toArray, List.set_cons_zero, List.set_cons_succ]
  refine wpAnyH_done (by kernel_rfl) ?_ _
  refine NoPanic.normal ?_
  have hBf := HB2.out.trans (b4.mono hle2)
  go_wp2_with fail
  go_ret2
  exact ⟨rfl, by first | exact hBf | exact ⟨hBf.os, hBf.tape, hBf.output, hBf.size, hBf.block⟩⟩

theorem odd_fin {x : Nat} (hb : x < 18446744073709551616) (h : oddL x = none) : mag x < 9218868437227405312 := by
  rcases Nat.lt_or_ge (mag x) 9218868437227405312 with q | q
  · exact q
  · exfalso
    rcases Nat.lt_or_ge 9218868437227405312 (mag x) with h2 | h2
    · unfold oddL at h
      rw [if_pos (nan_yes h2)] at h
      cases h
    · have e : x = 9218868437227405312 ∨ x = 18442240474082181120 := by unfold mag at q h2; omega
      unfold oddL at h
      split at h
      · cases h
      · rcases e with rfl | rfl
        · rw [if_pos (by decide)] at h; cases h
        · rw [if_neg (by decide), if_pos (by decide)] at h; cases h
theorem number_any (m p b a z : Bool) (wd pr : Int) (c x : Nat) (w : World) (hc : c < 256) (hb : x < 18446744073709551616) (hT : PowTab w) :
    Calls Tryz.prog 25 #[.agg #[.bool m, .bool p, .bool b, .bool a, .bool z, .int .i64 wd, .int .i64 pr, .int .u8 (c : Int)], .float .f64 x] w fun e w' => e = .returned (.tuple #[.string ⟨(numT m p b a z wd pr c x).toArray⟩, .int .i64 (numE wd pr c)]) ∧ Below w.heap.size w w' := by
  by_cases hk : chkB wd pr c = true ∧ vNum.contains c.toUInt8 = true
  · have e1 : numE wd pr c = 0 := if_pos hk
    rw [e1]
    unfold numT
    rw [if_pos hk]
    cases ho : oddL x with
    | some n => exact number_odd m p b a z wd pr c x n w hb hk.1 hk.2 ho
    | none =>
      have hf := odd_fin hb ho
      cases hw : vWhole.contains c.toUInt8 with
      | true =>
        simp only [if_true]
        cases z with
        | true => exact number_whole_true m p b a wd pr c x w hc hb hf hk.1 hk.2 hw
        | false => exact number_whole_false m p b a wd pr c x w hc hb hf hk.1 hk.2 hw
      | false =>
        simp only [Bool.false_eq_true, if_false]
        exact number_point m p b a z wd pr c x w hb hf hk.1 hk.2 hw hT
  · have e1 : numE wd pr c = 50 := if_neg hk
    rw [e1]
    unfold numT
    rw [if_neg hk]
    exact number_no m p b a z wd pr c x w hk
theorem numT_len (w : World) {m p b a z : Bool} {wd pr : Int} {c x : Nat} (h : numE wd pr c = 0) (hb : x < 18446744073709551616) : (numT m p b a z 0 pr c x).length ≤ 100010 := by
  unfold numE at h
  split at h
  case isFalse => cases h
  rename_i hk
  have hk0 : chkB 0 pr c = true ∧ vNum.contains c.toUInt8 = true := ⟨chk_wd hk.1, hk.2⟩
  obtain ⟨_, _, d2, d3⟩ := chk_bd hk.1
  unfold numT
  rw [if_pos hk0]
  cases ho : oddL x with
  | some n =>
    show (fillL n _ m).length ≤ _
    rw [fillL_zero n m (show (0 : Int) - (n.length : Int) ≤ 0 by omega), odd_len ho]
    omega
  | none =>
    have hf := odd_fin hb ho
    show (if _ then _ else _ : List UInt8).length ≤ _
    split
    · unfold wholeL
      rw [laid_bare, List.length_append, List.length_append, capL_len, capL_len]
      have := sgn_len p b c (lowB x)
      have := whB_len (truncR (mag x)) c a
      have := whD_len (truncR_fin hf) d3 a c
      omega
    · exact Nat.le_trans (pointT_len w hf (by omega) (by omega) d2 d3) (by omega)
end Go.Proofs.YtbbbdcohkfijoaaGreatDoor

namespace Go.Proofs.YtbbbdcohkfijoaaGreatDoor
open Go.RowKit Go.Lib

theorem row_zero (w : World) (B : Nat) (t : TypeId) : w.ownsRow B t 1 (.slice none 0 0) ([] : List UInt8).length (([] : List UInt8).map fun x => Value.int .u8 x.toNat) := World.ownsRow_nil _ _ _ _
set_option maxRecDepth 100000 in
set_option maxHeartbeats 4000000 in
theorem lblanks_any (n : Nat) (w : World) (hn : n ≤ 1000000) : Calls Tryz.prog 27 #[.int .i64 (n : Int)] w fun e w' => e = .returned (.string ⟨(List.replicate n 32).toArray⟩) ∧ Below w.heap.size w w' := by
  obtain ⟨i0, hi, hz0, hz1, hz2⟩ := info_parts info_u8
  go_enter Tryz.func27, Tryz.ntmps27
  go_wp2
  go_loopw [3, 4] (fun o i wr => ∃ k : Nat, k ≤ n ∧ i = .int .i64 k ∧ wr.ownsRow w.heap.size 5 1 o (List.replicate k (32 : UInt8)).length ((List.replicate k (32 : UInt8)).map fun x => Value.int .u8 x.toNat) ∧ Below w.heap.size w wr) (fun _ i _ => n - (RowKit.intOf i).toNat)
  case atStart => exact ⟨0, Nat.zero_le _, rfl, row_zero _ _ _, Below.refl _ _⟩
  case round =>
    obtain ⟨k, hk, rfl, hown, hB⟩ := hrel
    by_cases hlt : k < n
    · have hkk := List.length_replicate (n := k) (a := (32 : UInt8))
      go_wp2_with (at_builtin; refine wpList_append_own _ rfl _ _ 95 rfl w.heap.size 5 i0 (.int .u8 0) 1 1 Tryz.underlying95 hi hz0 hz1 hz2 rfl (by decide) _ _ _ rfl (hown.alloc _) ⟨wr.heap.size, 0, none⟩ 1 1 [.int .u8 32] rfl rfl (cell_one_new _ _ _) ?c2 ?c3 ?c4 ?c5 ?_)
      case c2 => simp [Value.oneCell']
      case c3 => unfold maxLen; omega
      case c4 => omega
      case c5 => have := hB.size; first | omega | (simp; omega)
      intro v' w1 hown' hgrow hnil
      have ho2 : w1.ownsRow w.heap.size 5 1 v' (List.replicate (k + 1) (32 : UInt8)).length ((List.replicate (k + 1) (32 : UInt8)).map fun x => Value.int .u8 x.toNat) := by
        rw [List.length_replicate, List.map_replicate, List.replicate_succ']
        exact hown'
      have hB1 : Below w.heap.size w w1 := (hB.alloc hB.size _).grown hgrow (by simp; have := hB.size; omega) (fun z e => (hown.lt z e).1)
      clear hown' hgrow hnil
      go_wp2
      go_roundw
      case rel => exact ⟨k + 1, by omega, by go_num, ho2, hB1⟩
      case measure => simp [RowKit.intOf]; omega
    · have hke : k = n := by omega
      subst hke
      have hcv := conv_digits wr w.heap.size _ _ hown
      go_wp2
      go_ret
      exact ⟨rfl, hB⟩
end Go.Proofs.YtbbbdcohkfijoaaGreatDoor

namespace Go.Proofs.YtbbbdcohkfijoaaGreatDoor
open Go.RowKit Go.Lib Go.Shelf
attribute [local go_sem] Oper.semAt_some

theorem Boxed.below {W W' : World} {B n : Nat} {t : TypeId} {v : Value} (h : Boxed W B t v) (hb : Below n W W') (hn : B < n) : Boxed W' B t v := (hb.block B hn).trans h

end Go.Proofs.YtbbbdcohkfijoaaGreatDoor

namespace Go.Proofs.YtbbbdcohkfijoaaGreatDoor
open Go.RowKit Go.Lib Go.Shelf
attribute [local go_sem] Oper.semAt_some

set_option maxRecDepth 100000 in
set_option maxHeartbeats 2000000 in
theorem place_in (s : ByteArray) (n : Int) (b : Bool) (w : World) (hs : s.size ≤ 1048576) (hT : Utf8Tabs 4 5 w) :
    CallsIn Fence.wide 10 Tryz.prog 236 #[.string s, .int .i64 n, .bool b] w fun e w' => e = .returned (.tuple #[.int .i64 (placeZ s b n).1, .bool (placeZ s b n).2]) ∧ Below w.heap.size w w' := by
  have hcl := cnt_le s b
  refine callsIn_of_wp_marks Tryz.func236 rfl trivial ?_ rfl
  simp only [Tryz.ntmps236, List.size_toArray, List.length_cons, List.length_nil, Nat.reduceAdd, Nat.reduceSub, Array.replicate_succ, Array.replicate_zero, List.push_toArray, List.append_toArray, List.nil_append, List.cons_append]
  by_cases h1 : n < 1
  · rw [placeZ, if_neg (by omega)]
    clear hT
    gi_wp2
    exact ⟨.tuple #[.int .i64 0, .bool false], by simp [results, Tryz.results236, go_sem], rfl, ((((Below.refl w.heap.size w).alloc (Nat.le_refl _) _).alloc (by simp) _).alloc (by simp; omega) _)⟩
  by_cases h2 : (s.size : Int) + 1 < n
  · rw [placeZ, if_neg (by omega)]
    clear hT
    gi_wp2
    exact ⟨.tuple #[.int .i64 0, .bool false], by simp [results, Tryz.results236, go_sem], rfl, ((((Below.refl w.heap.size w).alloc (Nat.le_refl _) _).alloc (by simp) _).alloc (by simp; omega) _)⟩
  cases b
  · gi_wp2_with fail
    refine ⟨trivial, (callsIn_wide.2 (all_any _ _ _)).mono ?_⟩
    rintro e W0 ⟨rfl, hW⟩
    simp only [World.size_alloc]
    obtain ⟨hsz, x4, x6, x7, x8, xa, xb⟩ := push6 w.heap (.cells #[.int .i64 n] 3) (.cells #[.int .i64 0] 3) (.cells #[.bool false] 4) (.cells #[.int .i64 1] 3) (.cells #[.string s] 9) (.cells #[.bool false] 4) W0.heap (by rw [← hW]; rfl)
    have hb0 : Below w.heap.size w W0 := by
      rw [← hW]
      exact ((((((Below.refl _ _).alloc (Nat.le_refl _) _).alloc (by simp) _).alloc (by simp; omega) _).alloc (by simp; omega) _).alloc (by simp; omega) _).alloc (by simp; omega) _
    have hTW : Utf8Tabs 4 5 W0 := tabs_below hT hb0 (Nat.le_refl _)
    clear hW
    gi_wp2
    refine wpIn_rangeFunc_ownF rfl (by omega) (gf := 321) (lb := #[.pointer (some ⟨w.heap.size + 4, 0, none⟩), .pointer (some ⟨w.heap.size + 4 + 1, 0, none⟩)]) rfl trivial (enters_of Tryz.func321 (by kernel_rfl) rfl)
      (all_stops 9 (by omega) s false (w.heap.size + 4) (w.heap.size + 4 + 1) W0 (by omega) (Boxed.cell xa) (Boxed.cell xb) hTW) KeepsAt.trans
      (fun W l o o' hl _ _ _ => KeepsAt.putObj W0.heap.size (fun c hc => by have := tabs_lt hTW; simp at hc; omega) W l o' hl) (Below.refl _ _) (fun _ => rfl)
      (fun pre W => (Boxed W w.heap.size 3 (.int .i64 n) ∧ Boxed W (w.heap.size + 1) 3 (.int .i64 0) ∧ Boxed W (w.heap.size + 1 + 1) 4 (.bool false) ∧ Boxed W (w.heap.size + 1 + 1 + 1) 3 (.int .i64 ((pre.length : Int) + 1))) ∧ (((pre.length : Int) < n ∧ w.heap.size + 6 ≤ W.heap.size) ∧ Below w.heap.size w W))
      (fun c pre W => c = .ret ∧ (∃ v : Nat, (Boxed W (w.heap.size + 1) 3 (.int .i64 v) ∧ Boxed W (w.heap.size + 1 + 1) 4 (.bool true)) ∧ (pre = List.range pre.length → (pre.length : Int) = n ∧ v = pl s false (pre.length - 1))) ∧ Below w.heap.size w W) ?hI ?hIx ⟨⟨x4, x6, x7, x8⟩, ⟨by simp; omega, by omega⟩, hb0⟩
      (fun k => { tmps := #[.string s, .int .i64 n, .bool false, undef, .pointer (some ⟨w.heap.size, 0, none⟩), undef, .pointer (some ⟨w.heap.size + 1, 0, none⟩), .pointer (some ⟨w.heap.size + 1 + 1, 0, none⟩), .pointer (some ⟨w.heap.size + 1 + 1 + 1, 0, none⟩), .int .i64 (pl s false k), .int .i64 n, .bool false, .bool false, .int .i64 n, .string s, .int .i64 s.size, .int .i64 (s.size + 1), .bool false, .bool false, .bool false, undef, undef, .string s, .func (.func 321) #[] #[.pointer (some ⟨w.heap.size + 1 + 1 + 1 + 1, 0, none⟩), .pointer (some ⟨w.heap.size + 1 + 1 + 1 + 1 + 1, 0, none⟩)], .int .i64 (pl s false k), .int .i64 (uCod s false (pl s false k)), undef, undef, undef, undef, undef, undef, undef, undef, undef, undef, undef], defers := [] }) ?assign ?body ?done ?stop
    case hI =>
      refine OwnFrom.and (OwnFrom.and (Own.from (boxed_own _ _ _) _) (OwnFrom.and (Own.from (boxed_own _ _ _) _) (OwnFrom.and (Own.from (boxed_own _ _ _) _) (Own.from (boxed_own _ _ (fun pre : List Nat => .int .i64 ((pre.length : Int) + 1))) _)))) (OwnFrom.and (fun _ A B row hs hg _ => ⟨hs.1, by have := hg.size; omega⟩) (ownFrom_below (Nat.le_refl _) (by omega)))
    case hIx =>
      rintro c pre A B row ⟨h1, ⟨v, ⟨h2, h3⟩, h4⟩, h5⟩ hg hr
      exact ⟨h1, ⟨v, ⟨boxed_own (β := Unit) (w.heap.size + 1) 3 (fun _ => .int .i64 v) () A B row h2 hg (fun r e => (hr r e).2), boxed_own (β := Unit) (w.heap.size + 1 + 1) 4 (fun _ => .bool true) () A B row h3 hg (fun r e => (hr r e).2)⟩, h4⟩, ownFrom_below (β := Unit) (Nat.le_refl _) (by omega) () A B row h5 hg hr⟩
    case assign =>
      intro l k W K hK
      gi_wp2
      exact hK
    case body =>
      rintro l pre k W ⟨⟨y4, y6, y7, y8⟩, ⟨hpn, hz⟩, hB⟩ hlen
      have c4 := y4.cell
      have c6 := y6.cell
      have f6 := y6.frozen
      have c7 := y7.cell
      have f7 := y7.frozen
      have c8 := y8.cell
      have f8 := y8.frozen
      have hl1 : (((pre ++ [k]).length : Nat) : Int) = (pre.length : Int) + 1 := by simp
      have hkn : pre ++ [k] = List.range (pre ++ [k]).length → k = pre.length := by
        intro he
        rw [List.length_append, List.length_cons, List.length_nil, Nat.zero_add] at he
        rw [List.range_succ] at he
        obtain ⟨_, h2⟩ := List.append_inj' he rfl
        simpa using h2
      have hl2 : (pre ++ [k]).length - 1 = pre.length := by simp
      obtain ⟨m, hm⟩ : ∃ m, pre.length = m := ⟨_, rfl⟩
      rw [hm] at c8 hl1 hl2 hkn hpn hlen y8
      have HL := Lib.hid hl1
      have HL2 := Lib.hid hl2
      have HKN := Lib.hid hkn
      have HY := Lib.hid (And.intro y4 (And.intro y6 (And.intro y7 y8)))
      have HB := Lib.hid hB
      have hple := pl_le s false k
      clear hl1 hl2 hkn y4 y6 y7 y8 hB hm x4 x6 x7 x8 xa xb hb0 hTW
      by_cases hmn : (m : Int) + 1 = n
      · have hmb : ((m : Int) + 1 == n) = true := by simp; omega
        have HMN := Lib.hid hmn
        clear hmn
        gi_wp2
        obtain ⟨z4, z6, z7, z8⟩ := HY.out
        exact ⟨(KeepsOthers.setCell _ _ _).trans (KeepsOthers.setCell _ _ _), rfl, ⟨pl s false k, ⟨(z6.set _).other (by omega) _, (z7.other (by omega) _).set _⟩, fun he => ⟨by rw [HL.out]; exact HMN.out, by rw [HL2.out, HKN.out he]⟩⟩, (HB.out.setCell (by show w.heap.size ≤ w.heap.size + 1; omega) _).setCell (by show w.heap.size ≤ w.heap.size + 1 + 1; omega) _⟩
      · have hmb : ((m : Int) + 1 == n) = false := by simp; omega
        gi_wp2
        obtain ⟨z4, z6, z7, z8⟩ := HY.out
        refine ⟨KeepsOthers.setCell _ _ _, KeepsAt.of_grown (grownBy_setCell' _ _ _) (fun c hc => ?_), ⟨z4.other (by omega) _, z6.other (by omega) _, z7.other (by omega) _, by rw [HL.out]; exact z8.set _⟩, ⟨by rw [HL.out]; omega, by simpa using hz⟩, HB.out.setCell (by show w.heap.size ≤ w.heap.size + 1 + 1 + 1; omega) _⟩
        have := tabs_lt hT
        simp only [List.mem_cons, List.not_mem_nil, or_false] at hc
        simp only [ne_eq, Option.some.injEq]
        omega
    case done =>
      rintro D xs W hD rfl ⟨⟨y4, y6, y7, y8⟩, ⟨hpn, hz⟩, hB⟩ hK
      rw [List.length_range] at y8 hpn
      have c4 := y4.cell
      have c6 := y6.cell
      have f6 := y6.frozen
      have c7 := y7.cell
      have f7 := y7.frozen
      have c8 := y8.cell
      have HB := Lib.hid hB
      have HY := Lib.hid (And.intro y6 y7)
      have HSZ := Lib.hid hsz
      by_cases hn : (cnt s false : Int) + 1 = n
      · have hmb : (((cnt s false : Nat) : Int) + 1 == n) = true := by simp; omega
        have hpz : placeZ s false n = (((s.size : Nat) : Int), true) := by
          rw [placeZ, if_pos (by omega), show (n - 1).toNat = cnt s false by omega, pl_cnt]
        have HPZ := Lib.hid hpz
        clear hn hpz y4 y6 y7 y8 hB hb0 hTW x4 x6 x7 x8 xa xb hsz
        gi_wp2
        have b6 := (HY.out.1.set (.int .i64 (s.size : Nat))).other (B' := w.heap.size + 1 + 1) (by omega) (.bool true)
        have b7 := (HY.out.2.other (B' := w.heap.size + 1) (by omega) (.int .i64 (s.size : Nat))).set (.bool true)
        have kD := ((KeepsOthers.setCell W ⟨w.heap.size + 1, 0, none⟩ (.int .i64 (s.size : Nat))).trans (KeepsOthers.setCell _ ⟨w.heap.size + 1 + 1, 0, none⟩ (.bool true))).same D _ hK rfl
        have hBY := (HB.out.setCell (p := ⟨w.heap.size + 1, 0, none⟩) (by show w.heap.size ≤ w.heap.size + 1; omega) (.int .i64 (s.size : Nat))).setCell (p := ⟨w.heap.size + 1 + 1, 0, none⟩) (by show w.heap.size ≤ w.heap.size + 1 + 1; omega) (.bool true)
        have hs' := HSZ.out
        have d6 := (b6.kept (grownBy_putObj' _ D (.deferred none)) (fun e => by have := Option.some.inj e; omega)).cell
        have d7 := (b7.kept (grownBy_putObj' _ D (.deferred none)) (fun e => by have := Option.some.inj e; omega)).cell
        refine ⟨by simp, .inl ⟨_, _, rfl, run_takeDeferred kD, .tuple #[.int .i64 (s.size : Nat), .bool true], ?_, by rw [HPZ.out], ?_⟩⟩
        · simp [results, Tryz.results236, go_sem, d6, d7]
        · exact hBY.trans (belowK_b (w := w) (Nat.le_refl _) _ D _ _ (by omega) kD rfl rfl)
      · have hmb : (((cnt s false : Nat) : Int) + 1 == n) = false := by simp; omega
        have hpz : placeZ s false n = (0, false) := by
          rw [placeZ, if_neg (by omega)]
        have HPZ := Lib.hid hpz
        clear hn hpz y4 y6 y7 y8 hB hb0 hTW x4 x6 x7 x8 xa xb hsz
        gi_wp2
        have b6 := (HY.out.1.set (.int .i64 0)).other (B' := w.heap.size + 1 + 1) (by omega) (.bool false)
        have b7 := (HY.out.2.other (B' := w.heap.size + 1) (by omega) (.int .i64 0)).set (.bool false)
        have kD := ((KeepsOthers.setCell W ⟨w.heap.size + 1, 0, none⟩ (.int .i64 0)).trans (KeepsOthers.setCell _ ⟨w.heap.size + 1 + 1, 0, none⟩ (.bool false))).same D _ hK rfl
        have hBY := (HB.out.setCell (p := ⟨w.heap.size + 1, 0, none⟩) (by show w.heap.size ≤ w.heap.size + 1; omega) (.int .i64 0)).setCell (p := ⟨w.heap.size + 1 + 1, 0, none⟩) (by show w.heap.size ≤ w.heap.size + 1 + 1; omega) (.bool false)
        have hs' := HSZ.out
        have d6 := (b6.kept (grownBy_putObj' _ D (.deferred none)) (fun e => by have := Option.some.inj e; omega)).cell
        have d7 := (b7.kept (grownBy_putObj' _ D (.deferred none)) (fun e => by have := Option.some.inj e; omega)).cell
        refine ⟨by simp, .inl ⟨_, _, rfl, run_takeDeferred kD, .tuple #[.int .i64 0, .bool false], ?_, by rw [HPZ.out], ?_⟩⟩
        · simp [results, Tryz.results236, go_sem, d6, d7]
        · exact hBY.trans (belowK_b (w := w) (Nat.le_refl _) _ D _ _ (by omega) kD rfl rfl)
    case stop =>
      rintro D c pre W hD ⟨k, hk, rfl⟩ ⟨rfl, ⟨v, ⟨y6, y7⟩, hv⟩, hB⟩ hK
      obtain ⟨hv1, hv2⟩ := hv (by simp)
      rw [List.length_range] at hv1 hv2
      have hpz : placeZ s false n = (((v : Nat) : Int), true) := by
        rw [placeZ, if_pos (by omega), hv2, show (n - 1).toNat = k - 1 by omega]
      have HPZ := Lib.hid hpz
      clear hpz hv hv1 hv2 hb0 hTW x4 x6 x7 x8 xa xb
      have HSZ := Lib.hid hsz
      have HB := Lib.hid hB
      clear hsz hB
      gi_wp2
      have hs' := HSZ.out
      have d6 := (y6.kept (grownBy_putObj' _ D (.deferred none)) (fun e => by have := Option.some.inj e; omega)).cell
      have d7 := (y7.kept (grownBy_putObj' _ D (.deferred none)) (fun e => by have := Option.some.inj e; omega)).cell
      refine ⟨by simp, .inl ⟨_, _, rfl, run_takeDeferred hK, .tuple #[.int .i64 (v : Nat), .bool true], ?_, by rw [HPZ.out], ?_⟩⟩
      · simp [results, Tryz.results236, go_sem, d6, d7]
      · exact HB.out.trans (belowK_b (w := w) (Nat.le_refl _) _ D _ _ (by omega) hK rfl rfl)
  · rw [cnt_byte] at hcl
    rw [placeZ, cnt_byte, if_pos (by omega), pl_byte s _ (by omega)]
    clear hT
    gi_wp2
    exact ⟨.tuple #[.int .i64 (n - 1), .bool true], by simp [results, Tryz.results236, go_sem], by simp; omega, ((((Below.refl w.heap.size w).alloc (Nat.le_refl _) _).alloc (by simp) _).alloc (by simp; omega) _)⟩
end Go.Proofs.YtbbbdcohkfijoaaGreatDoor

namespace Go.Proofs.YtbbbdcohkfijoaaGreatDoor
open Go.RowKit Go.Lib Go.Shelf
attribute [local go_sem] Oper.semAt_some

def aheadZ (s : ByteArray) (b : Bool) (n : Int) : Nat := if n < 1 then 0 else if (placeZ s b n).2 then (placeZ s b n).1.toNat else s.size

set_option maxRecDepth 100000 in
set_option maxHeartbeats 2000000 in
theorem ahead_in (s : ByteArray) (n : Int) (b : Bool) (w : World) (hs : s.size ≤ 1048576) (hT : Utf8Tabs 4 5 w) :
    CallsIn Fence.wide 10 Tryz.prog 181 #[.string s, .int .i64 n, .bool b] w fun e w' => e = .returned (.int .i64 (aheadZ s b n : Nat)) ∧ Below w.heap.size w w' := by
  refine callsIn_of_wp_marks Tryz.func181 rfl trivial ?_ rfl
  simp only [Tryz.ntmps181, List.size_toArray, List.length_cons, List.length_nil, Nat.reduceAdd, Nat.reduceSub, Array.replicate_succ, Array.replicate_zero, List.push_toArray, List.append_toArray, List.nil_append, List.cons_append]
  by_cases h1 : n < 1
  · rw [aheadZ, if_pos h1]
    clear hT
    gi_wp2
    exact ⟨.int .i64 0, by simp [results, Tryz.results181, go_sem], rfl, Below.refl w.heap.size w⟩
  · have PI := Lib.hid (place_in s n b w hs hT)
    clear hT
    rw [aheadZ, if_neg h1]
    gi_wp2_with fail
    refine ⟨trivial, (callsIn_wide.2 (callsIn_wide.1 PI.out)).mono ?_⟩
    rintro e W0 ⟨rfl, hW⟩
    have HW := Lib.hid hW
    clear hW PI
    have hz : (placeZ s b n).1 = max (placeZ s b n).1 0 := by
      have : 0 ≤ (placeZ s b n).1 := by rw [placeZ]; split <;> simp
      omega
    have HZ := Lib.hid hz
    clear hz
    cases hp : (placeZ s b n).2
    · gi_wp2
      all_goals exact ⟨.int .i64 (s.size : Nat), by simp [results, Tryz.results181, go_sem], rfl, HW.out⟩
    · gi_wp2
      exact ⟨.int .i64 (placeZ s b n).1, by simp [results, Tryz.results181, go_sem], by rw [← HZ.out], HW.out⟩
end Go.Proofs.YtbbbdcohkfijoaaGreatDoor

namespace Go.Proofs.YtbbbdcohkfijoaaGreatDoor
open Go.RowKit Go.Lib Go.Shelf
attribute [local go_sem] Oper.semAt_some

theorem aheadZ_pl (s : ByteArray) (b : Bool) (n : Int) : aheadZ s b n = pl s b (min (max n 1) (cnt s b + 1) - 1).toNat := by
  unfold aheadZ
  by_cases h1 : n < 1
  · rw [if_pos h1, show (min (max n 1) ((cnt s b : Int) + 1) - 1).toNat = 0 by omega]; rfl
  rw [if_neg h1]
  by_cases h2 : n ≤ cnt s b + 1
  · have e : placeZ s b n = (((pl s b (n - 1).toNat : Nat) : Int), true) := by rw [placeZ, if_pos ⟨by omega, h2⟩]
    rw [e, show (min (max n 1) ((cnt s b : Int) + 1) - 1).toNat = (n - 1).toNat by omega]; simp
  · have e : placeZ s b n = (0, false) := by rw [placeZ, if_neg (by omega)]
    rw [e, show (min (max n 1) ((cnt s b : Int) + 1) - 1).toNat = cnt s b by omega, pl_cnt]; simp

theorem sub_ahead (s : ByteArray) (b : Bool) (i j : Int) (h : i < j) : s.extract (aheadZ s b i) (aheadZ s b j) = subB s b i j := by
  rw [aheadZ_pl, aheadZ_pl]
  unfold subB
  by_cases hc : min j ((cnt s b : Int) + 1) ≤ max i 1
  · rw [if_pos hc, show (min (max j 1) ((cnt s b : Int) + 1) - 1).toNat = (min (max i 1) ((cnt s b : Int) + 1) - 1).toNat by omega]
    apply ByteArray.ext
    simp
  · rw [if_neg hc, show (min (max j 1) ((cnt s b : Int) + 1) - 1) = (min j ((cnt s b : Int) + 1) - 1) by omega, show (min (max i 1) ((cnt s b : Int) + 1) - 1) = (max i 1 - 1) by omega]

theorem sub_none (s : ByteArray) (b : Bool) (i j : Int) (h : j ≤ i) : subB s b i j = ⟨#[]⟩ := by
  unfold subB; rw [if_pos (by omega)]

set_option maxRecDepth 100000 in
set_option maxHeartbeats 2000000 in
theorem clone_in (s : ByteArray) (w : World) (hs : s.size ≤ 1048576) :
    CallsIn Fence.wide 10 Tryz.prog 123 #[.string s] w fun e w' => e = .returned (.string s) ∧ Below w.heap.size w w' := by
  have SC := Lib.hid (Tryz.stringslite_Clone s w (by omega))
  refine callsIn_of_wp_marks Tryz.func123 rfl trivial ?_ rfl
  simp only [Tryz.ntmps123, List.size_toArray, List.length_cons, List.length_nil, Nat.reduceAdd, Nat.reduceSub, Array.replicate_succ, Array.replicate_zero, List.push_toArray, List.append_toArray, List.nil_append, List.cons_append]
  gi_wp2_with fail
  refine ⟨trivial, (callsIn_wide.2 SC.out).mono ?_⟩
  rintro e W0 ⟨rfl, hW⟩
  gi_wp2
  exact ⟨.string s, by simp [results, Tryz.results123, go_sem], rfl, hW⟩

set_option maxRecDepth 100000 in
set_option maxHeartbeats 2000000 in
theorem sub_in (s : ByteArray) (i j : Int) (b : Bool) (w : World) (hs : s.size ≤ 1048576) (hT : Utf8Tabs 4 5 w) :
    CallsIn Fence.wide 10 Tryz.prog 122 #[.string s, .int .i64 i, .int .i64 j, .bool b] w fun e w' => e = .returned (.string (subB s b i j)) ∧ Below w.heap.size w w' := by
  refine callsIn_of_wp_marks Tryz.func122 rfl trivial ?_ rfl
  simp only [Tryz.ntmps122, List.size_toArray, List.length_cons, List.length_nil, Nat.reduceAdd, Nat.reduceSub, Array.replicate_succ, Array.replicate_zero, List.push_toArray, List.append_toArray, List.nil_append, List.cons_append]
  by_cases h1 : j ≤ i
  · rw [sub_none s b i j h1]
    clear hT
    gi_wp2
    exact ⟨.string ⟨#[]⟩, by simp [results, Tryz.results122, go_sem], rfl, Below.refl w.heap.size w⟩
  · have AI := Lib.hid (fun (n : Int) (W : World) (T : Utf8Tabs 4 5 W) => ahead_in s n b W hs T)
    have HT := Lib.hid hT
    have hij : aheadZ s b i ≤ aheadZ s b j := by
      rw [aheadZ_pl, aheadZ_pl]; exact pl_mono _ _ _ _ (by omega)
    have hjs : aheadZ s b j ≤ s.size := by rw [aheadZ_pl]; exact pl_le _ _ _
    have HE := Lib.hid (sub_ahead s b i j (by omega))
    have hse : (s.extract (aheadZ s b i) (aheadZ s b j)).size ≤ 1048576 := by rw [ByteArray.size_extract]; omega
    have CL := Lib.hid (fun (W : World) => clone_in (s.extract (aheadZ s b i) (aheadZ s b j)) W hse)
    clear hT hse
    gi_wp2_with fail
    refine ⟨trivial, (callsIn_wide.2 (callsIn_wide.1 (AI.out i _ HT.out))).mono ?_⟩
    rintro e W0 ⟨rfl, hW⟩
    have HW := Lib.hid hW
    clear hW
    gi_wp2_with fail
    refine ⟨trivial, (callsIn_wide.2 (callsIn_wide.1 (AI.out j _ (tabs_below HT.out HW.out (Nat.le_refl _))))).mono ?_⟩
    rintro e W1 ⟨rfl, hW⟩
    have HW1 := Lib.hid (HW.out.trans (hW.mono HW.out.size))
    clear hW
    gi_wp2_with fail
    refine ⟨trivial, (callsIn_wide.2 (callsIn_wide.1 (CL.out _))).mono ?_⟩
    rintro e W2 ⟨rfl, hW⟩
    gi_wp2
    all_goals exact ⟨.string (s.extract (aheadZ s b i) (aheadZ s b j)), by simp [results, Tryz.results122, go_sem], by rw [HE.out], HW1.out.trans (hW.mono HW1.out.size)⟩
end Go.Proofs.YtbbbdcohkfijoaaGreatDoor

namespace Go.Proofs.YtbbbdcohkfijoaaGreatDoor
open Go.RowKit Go.Lib

/-- What of a text is written, and how wide. -/
def cutT (pr : Int) (c : Nat) (s : ByteArray) (by' : Bool) : ByteArray := if c = 115 ∧ 0 ≤ pr then subB s by' 1 (pr + 1) else s
def textT (m : Bool) (wd pr : Int) (c : Nat) (s : ByteArray) (by' : Bool) : List UInt8 := fillL (cutT pr c s by').data.toList (wd - (cnt (cutT pr c s by') by' : Int)) m
theorem sub_size (s : ByteArray) (b : Bool) (i j : Int) : (subB s b i j).size ≤ s.size := by
  unfold subB
  split
  · exact Nat.zero_le _
  · rw [ByteArray.size_extract]
    omega
theorem cut_size (pr : Int) (c : Nat) (s : ByteArray) (b : Bool) : (cutT pr c s b).size ≤ s.size := by
  unfold cutT
  split
  · exact sub_size _ _ _ _
  · exact Nat.le_refl _
theorem verb_text {c : Nat} (h : c < 256) (hv : vText.contains c.toUInt8 = true) : c = 99 ∨ c = 115 := by
  have key : ∀ n : Fin 256, vText.contains (UInt8.ofNat n.val) = true → n.val = 99 ∨ n.val = 115 := by decide +kernel
  exact key ⟨c, h⟩ hv
set_option maxRecDepth 100000 in
set_option maxHeartbeats 8000000 in
theorem ftext_yes (m p b a z by' : Bool) (wd pr : Int) (c : Nat) (s : ByteArray) (w : World) (hs : s.size ≤ 1048576) (hc : c < 256) (hk : chkB wd pr c = true) (hv : vText.contains c.toUInt8 = true) (hT : Utf8Tabs 4 5 w) :
    Calls Tryz.prog 70 #[.agg #[.bool m, .bool p, .bool b, .bool a, .bool z, .int .i64 wd, .int .i64 pr, .int .u8 (c : Int)], .string s, .bool by'] w fun e w' => e = .returned (.tuple #[.string ⟨(textT m wd pr c s by').toArray⟩, .int .i64 0]) ∧ Below w.heap.size w w' := by
  obtain ⟨d0, d1, d2, d3⟩ := chk_bd hk
  have hcc := verb_text hc hv
  have cK := fun W => check_any m p b a z wd pr c W
  rw [hk, if_pos rfl] at cK
  have cA := fun W => among_any ⟨#[99, 115]⟩ c W
  replace cA : ∀ w : World, Calls Tryz.prog 73 #[.string ⟨#[99, 115]⟩, .int .u8 (c : Int)] w fun e w' => e = .returned (.bool (vText.contains c.toUInt8)) ∧ w = w' := cA
  rw [hv] at cA
  have cS := fun (W : World) h => callsIn_wide.1 (sub_in s 1 (pr + 1) by' W hs h)
  have cC := fun W => clone_str s W (by omega)
  obtain ⟨t, ht⟩ : ∃ t, cutT pr c s by' = t := ⟨_, rfl⟩
  have hts := cut_size pr c s by'
  rw [ht] at hts
  have hcl := cnt_le t by'
  have cL := fun W => len_any t by' W (by omega)
  obtain ⟨n, hn⟩ : ∃ n, cnt t by' = n := ⟨_, rfl⟩
  rw [hn] at cL hcl
  have hwr : IntKind.i64.wrap (wd - (n : Int)) = wd - (n : Int) := by rw [IntKind.wrap_i64]; omega
  have hwr2 : IntKind.i64.wrap (pr + 1) = pr + 1 := by rw [IntKind.wrap_i64]; omega
  have cF := fun W => fill_any t (wd - (n : Int)) m W (by omega) (by omega) (by omega)
  have hX : textT m wd pr c s by' = fillL t.data.toList (wd - (n : Int)) m := by unfold textT; rw [ht, hn]
  rw [hX]
  obtain ⟨X, hX⟩ : ∃ X : ByteArray, (⟨(fillL t.data.toList (wd - (n : Int)) m).toArray⟩ : ByteArray) = X := ⟨_, rfl⟩
  rw [hX] at cF ⊢
  have hS : (((c : Int) == 115) = true ∧ 0 ≤ pr ∧ subB s by' 1 (pr + 1) = t) ∨ (((c : Int) == 115) = false ∧ s = t) ∨ (((c : Int) == 115) = true ∧ pr < 0 ∧ s = t) := by
    unfold cutT at ht
    by_cases h1 : c = 115 ∧ 0 ≤ pr
    · rw [if_pos h1] at ht
      exact Or.inl ⟨by rw [beq_iff_eq]; omega, h1.2, ht⟩
    · rw [if_neg h1] at ht
      rcases hcc with h2 | h2
      · exact Or.inr (Or.inl ⟨by rw [beq_eq_false_iff_ne]; omega, ht⟩)
      · exact Or.inr (Or.inr ⟨by rw [beq_iff_eq]; omega, by omega, ht⟩)
  have CK := Lib.hid cK
  have CA := Lib.hid cA
  have CS := Lib.hid cS
  have CC := Lib.hid cC
  have CL := Lib.hid cL
  have CF := Lib.hid cF
  have HT := Lib.hid hT
  have FP := Lib.hid (Five.new w #[.bool m, .bool p, .bool b, .bool a, .bool z, .int .i64 wd, .int .i64 pr, .int .u8 (c : Int)] 35)
  have HB0 := Lib.hid ((Below.refl w.heap.size w).alloc (Nat.le_refl _) (.cells #[.bool m, .bool p, .bool b, .bool a, .bool z, .int .i64 wd, .int .i64 pr, .int .u8 (c : Int)] 35))
  obtain ⟨W1, hW1⟩ : ∃ W1, w.alloc (.cells #[.bool m, .bool p, .bool b, .bool a, .bool z, .int .i64 wd, .int .i64 pr, .int .u8 (c : Int)] 35) = W1 := ⟨_, rfl⟩
  rw [hW1] at FP HB0
  have HW1 := Lib.hid hW1
  clear cK cA cS cC cL cF hT hW1 hX hk hv hcc ht hn hs hts hcl d0 d1 d3
  have hle : w.heap.size ≤ W1.heap.size := HB0.out.size
  obtain ⟨B, hB⟩ : ∃ B, w.heap.size = B := ⟨_, rfl⟩
  rw [hB] at FP HB0 hle ⊢
  have HB := Lib.hid hB
  have HTW := Lib.hid (fun (W : World) (h : Below B w W) => tabs_below HT.out h (Nat.le_of_eq hB))
  clear hB
  rcases hS with ⟨hq, hp, hst⟩ | ⟨hq, rfl⟩ | ⟨hq, hp, rfl⟩
  all_goals
    obtain ⟨p0, p1, p2, p3, p4, p5, p6, p7⟩ := spec_cells FP.out
    go_enter Tryz.func70, Tryz.ntmps70
    go_wp2_with fail
    rw [HW1.out, HB.out]
    refine (CK.out _).mono ?_
    rintro e W2 ⟨rfl, h2⟩
    clear p0 p1 p2 p3 p4 p5 p6 p7
    obtain ⟨p0, p1, p2, p3, p4, p5, p6, p7⟩ := spec_cells (FP.out.below h2)
    have FP2 := Lib.hid (FP.out.below h2)
    have HB2 := Lib.hid (HB0.out.trans (h2.mono hle))
    have hle2 : B ≤ W2.heap.size := Nat.le_trans hle h2.size
    clear h2
    go_wp2_with fail
    refine (CA.out _).mono ?_
    rintro e w' ⟨rfl, rfl⟩
    go_wp2_with fail
  all_goals
    have HC3 := Lib.hid (fun (W : World) (h : Below W2.heap.size W2 W) => spec_cells (FP2.out.below h))
    first
    | (refine (CC.out _).mono ?_
       rintro e W3 ⟨rfl, h3⟩)
    | (refine (CS.out _ (HTW.out _ HB2.out)).mono ?_
       rintro e W3 ⟨rfl, h3⟩
       rw [hst])
    clear p0 p1 p2 p3 p4 p5 p6 p7
    obtain ⟨p0, p1, p2, p3, p4, p5, p6, p7⟩ := HC3.out _ h3
    have FP3 := Lib.hid (FP2.out.below h3)
    have HB3 := Lib.hid (HB2.out.trans (h3.mono hle2))
    have hle3 : B ≤ W3.heap.size := Nat.le_trans hle2 h3.size
    clear h3
    go_wp2_with fail
    have HCW := Lib.hid (fun (W : World) (h : Below W3.heap.size W3 W) => spec_cells (FP3.out.below h))
    have hR := Below.refl W3.heap.size W3
    go_region_held3 (fun w' => w'.cell? ⟨B, 0, none⟩ = some (.bool m) ∧ w'.cell? ⟨B, 1, none⟩ = some (.bool p) ∧ w'.cell? ⟨B, 2, none⟩ = some (.bool b) ∧ w'.cell? ⟨B, 3, none⟩ = some (.bool a) ∧ w'.cell? ⟨B, 4, none⟩ = some (.bool z) ∧ w'.cell? ⟨B, 5, none⟩ = some (.int .i64 wd) ∧ w'.cell? ⟨B, 6, none⟩ = some (.int .i64 pr) ∧ w'.cell? ⟨B, 7, none⟩ = some (.int .u8 (c : Int)))
      (first | (with_reducible exact S2) | (with_reducible exact S1) | go_keep)
      (first
      | (go_at_call 124; (with_reducible refine (CL.out _).mono ?_); rintro e W4 ⟨rfl, h4⟩; have b4 : Below W3.heap.size W3 W4 := ⟨h4.os, h4.tape, h4.output, h4.size, h4.block⟩; have S1 := HCW.out _ b4; clear h4)
      | (go_at_call 75; (with_reducible refine (CF.out _).mono ?_); rintro e W5 ⟨rfl, h5⟩; have b5 : Below W3.heap.size W3 W5 := b4.trans ((⟨h5.os, h5.tape, h5.output, h5.size, h5.block⟩ : Below W4.heap.size W4 W5).mono b4.size); have S2 := HCW.out _ b5; clear h5))
    all_goals
      have hBf := HB3.out.trans (b5.mono hle3)
      go_wp2_with fail
      go_ret2
      exact ⟨rfl, by first | exact hBf | exact ⟨hBf.os, hBf.tape, hBf.output, hBf.size, hBf.block⟩⟩
theorem decs_is {l : List UInt8} {n : Nat} (hd : Dec l) (hp : pv l = n) (h0 : 0 < l.length) (h1 : l[0] ≠ 48) : decs n = l := by
  rw [← hp, ← decs_strip (i := 0) hd h0 (fun j h => by omega) (Or.inr h1), List.drop_zero]
theorem fix_01 : fixP 4591870180066957722 6 false = [48, 46, 49, 48, 48, 48, 48, 48] := by
  unfold fixP
  rw [show rnd (amN 4591870180066957722 * 10 ^ 6) (amD 4591870180066957722) = 100000 by decide +kernel, decs_is (l := [49, 48, 48, 48, 48, 48]) (n := 100000) (by unfold Dec; decide) (by decide) (by decide) (by decide)]
  rfl
theorem gen_01 : genT 4591870180066957722 5 false = [48, 46, 49] := by
  unfold genT
  rw [sciX_of (sciB_ok (P := -1) (M := 100000) (by decide +kernel) (by omega))]
  rw [if_neg (by decide)]
  show trimG false (fixP 4591870180066957722 6 false) = _
  rw [fix_01]
  rfl
theorem conv6_01 : conv6 4591870180066957722 = [48, 46, 49] := by
  unfold conv6
  rw [if_neg (by decide +kernel), show oddL 4591870180066957722 = none from odd_none (by decide)]
  show pointT false false false false false 0 6 103 4591870180066957722 = _
  unfold pointT ptD
  rw [if_neg (by decide), if_neg (by decide), show (max (1 : Int) (if (6 : Int) < 0 then (6 : Int) else 6) - 1).toNat = 5 by decide, show mag 4591870180066957722 = 4591870180066957722 by decide, gen_01]
  decide +kernel
theorem pt_pi : pointT false true false false true 8 2 102 4614256650576692846 = [43, 48, 48, 48, 51, 46, 49, 52] := by
  unfold pointT ptD
  rw [if_pos (Or.inl rfl)]
  decide +kernel
theorem text_ex : textT true 5 2 115 ⟨#[97, 195, 169, 122]⟩ false = [97, 195, 169, 32, 32, 32] := by
  decide +kernel
def pEx : ByteArray := ⟨#[97, 37, 43, 48, 56, 46, 50, 102, 98]⟩
theorem parse_ex : parseF pEx 1 = some ⟨false, true, false, false, true, 8, 2, 102, false, false, 8⟩ := by rfl
end Go.Proofs.YtbbbdcohkfijoaaGreatDoor

namespace Go.Proofs.YtbbbdcohkfijoaaGreatDoor
open Go.RowKit Go.Lib

set_option maxRecDepth 100000 in
set_option maxHeartbeats 8000000 in
theorem ffixed_any (w : World) (hT : PowTab w) (hU : Utf8Tabs 4 5 w) : Calls Tryz.prog 24 #[] w fun e w' => e = .returned (.bool true) ∧ Below w.heap.size w w' := by
  have c1 := fun W => fparse_any pEx 1 W (by decide)
  rw [parse_ex] at c1
  replace c1 : ∀ W, Calls Tryz.prog 69 #[.string ⟨#[97, 37, 43, 48, 56, 46, 50, 102, 98]⟩, .int .i64 1] W fun e w' => e = .returned (.tuple #[.agg #[.bool false, .bool true, .bool false, .bool false, .bool true, .int .i64 8, .int .i64 2, .int .u8 102, .bool false, .bool false, .int .i64 8], .int .i64 0]) ∧ Below W.heap.size W w' := c1
  have c2 := fun W hW => number_point false true false false true 8 2 102 4614256650576692846 W (by omega) (by decide) (by decide) (by decide) (by decide) hW
  rw [pt_pi] at c2
  replace c2 : ∀ W, PowTab W → Calls Tryz.prog 25 #[.agg #[.bool false, .bool true, .bool false, .bool false, .bool true, .int .i64 8, .int .i64 2, .int .u8 102], .float .f64 4614256650576692846] W fun e w' => e = .returned (.tuple #[.string ⟨#[43, 48, 48, 48, 51, 46, 49, 52]⟩, .int .i64 0]) ∧ Below W.heap.size W w' := c2
  have c3 := fun W hW => ftext_yes true false false false false false 5 2 115 ⟨#[97, 195, 169, 122]⟩ W (by decide) (by omega) (by decide) (by decide) hW
  rw [text_ex] at c3
  replace c3 : ∀ W, Utf8Tabs 4 5 W → Calls Tryz.prog 70 #[.agg #[.bool true, .bool false, .bool false, .bool false, .bool false, .int .i64 5, .int .i64 2, .int .u8 115], .string ⟨#[97, 195, 169, 122]⟩, .bool false] W fun e w' => e = .returned (.tuple #[.string ⟨#[97, 195, 169, 32, 32, 32]⟩, .int .i64 0]) ∧ Below W.heap.size W w' := c3
  have c4 := fun W hW => conv_6g 4591870180066957722 W (by omega) hW
  rw [conv6_01] at c4
  replace c4 : ∀ W, PowTab W → Calls Tryz.prog 71 #[.float .f64 4591870180066957722, .string ⟨#[37, 46, 54, 103]⟩] W fun e w' => e = .returned (.string ⟨#[48, 46, 49]⟩) ∧ Below W.heap.size W w' := c4
  have HT := Lib.hid (Lib.tabBelow_of_tabIs hT)
  have HU := Lib.hid (fun (W : World) (h : Below w.heap.size w W) => tabs_below hU h (Nat.le_refl _))
  have C1 := Lib.hid c1
  have C2 := Lib.hid c2
  have C3 := Lib.hid c3
  have C4 := Lib.hid c4
  clear c1 c2 c3 c4 hT hU
  go_enter Tryz.func24, Tryz.ntmps24
  go_wp2_with fail
  refine (C1.out _).mono ?_
  rintro e w1 ⟨rfl, hB1⟩
  have fA := Five.new w1 #[.bool false, .bool true, .bool false, .bool false, .bool true, .int .i64 8, .int .i64 2, .int .u8 102, .bool false, .bool false, .int .i64 8] 102
  have hA := hB1.alloc hB1.size (.cells #[.bool false, .bool true, .bool false, .bool false, .bool true, .int .i64 8, .int .i64 2, .int .u8 102, .bool false, .bool false, .int .i64 8] 102)
  obtain ⟨W2, hW2⟩ : ∃ W2, w1.alloc (.cells #[.bool false, .bool true, .bool false, .bool false, .bool true, .int .i64 8, .int .i64 2, .int .u8 102, .bool false, .bool false, .int .i64 8] 102) = W2 := ⟨_, rfl⟩
  obtain ⟨B, hB⟩ : ∃ B, w1.heap.size = B := ⟨_, rfl⟩
  rw [hW2] at fA hA
  rw [hB] at fA
  have HW2 := Lib.hid hW2
  have HB := Lib.hid hB
  have FA := Lib.hid fA
  have HA := Lib.hid hA
  clear hW2 hB fA hA hB1
  obtain ⟨⟨q0, q1, q2, q3, q4, q5, q6, q7, q8, q9, q10⟩, -⟩ := FA.out.eleven
  go_wp2_with fail
  rw [HW2.out, HB.out]
  clear q0 q1 q2 q3 q4 q5 q6 q7 q8 q9 q10
  refine (C2.out _ (HT.out _ HA.out)).mono ?_
  rintro e W3 ⟨rfl, h3⟩
  have FA3 := Lib.hid (FA.out.below h3)
  have HA3 := Lib.hid (HA.out.trans (h3.mono HA.out.size))
  clear h3
  go_wp2_with fail
  refine (C3.out _ (HU.out _ HA3.out)).mono ?_
  rintro e W4 ⟨rfl, h4⟩
  have FA4 := Lib.hid (FA3.out.below h4)
  have HA4 := Lib.hid (HA3.out.trans (h4.mono HA3.out.size))
  clear h4
  have HCW := Lib.hid (fun (W : World) (h : Below W4.heap.size W4 W) => (show W.cell? ⟨B, 10, none⟩ = some (.int .i64 8) from ((FA4.out.below h).eleven).1.2.2.2.2.2.2.2.2.2.2))
  have hR := Below.refl W4.heap.size W4
  have q10 := HCW.out W4 hR
  go_wp2_with fail
  refine (C4.out _ (HT.out _ HA4.out)).mono ?_
  rintro e W5 ⟨rfl, h5⟩
  have hBf := HA4.out.trans (h5.mono HA4.out.size)
  clear h5 q10
  go_wp2_with fail
  go_ret
  exact ⟨rfl, hBf⟩
end Go.Proofs.YtbbbdcohkfijoaaGreatDoor
