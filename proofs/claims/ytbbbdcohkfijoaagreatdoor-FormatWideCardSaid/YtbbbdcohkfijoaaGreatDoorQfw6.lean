/- Several texts in one (Contracts of layer 5: Signbit, and the pieces of a number with a point (pointed); Contracts of layer 5: the pieces of a number as one, as wide as is asked for (padded); The order of floats by a whole number, and what a number is called that has no digits (boundless); Contracts of layer 5: Number, by a verb with a point, and of what has no digits; Plain: what digits in a base are worth; a whole number's digits in bases of eight and sixteen; Contracts of layer 5: the reader's flags and amounts; Contracts of layer 5: the reader's amounts). -/
import Derived.Deep.RegionHeld3
import Derived.Deep.DeepCutAuto
import Derived.Test.YtbbbdcohkfijoaaGreatDoorQfw5
namespace Go.Proofs.YtbbbdcohkfijoaaGreatDoor
open Go.RowKit Go.Lib

def sbB (x : Nat) : Bool := decide (9223372036854775808 ≤ x)
set_option maxRecDepth 100000 in
theorem signbit_any (x : Nat) (w : World) (hb : x < 18446744073709551616) : Calls Tryz.prog 134 #[.float .f64 x] w fun e w' => e = .returned (.bool (sbB x)) ∧ w = w' := by
  have h1 := fun W => run_f64bits x W
  have g0 : (0 : Int) ≤ (x : Int) := by omega
  by_cases h : 9223372036854775808 ≤ x
  · have e : sbB x = true := decide_eq_true h
    have hc : IntKind.i64.wrap (x : Int) = (x : Int) - 18446744073709551616 := by
      rw [IntKind.wrap_i64]; omega
    have hl : (x : Int) - 18446744073709551616 < 0 := by omega
    rw [e]
    go_enter Tryz.func134, Tryz.ntmps134
    go_wp2
    go_ret
    exact ⟨rfl, rfl⟩
  · have e : sbB x = false := decide_eq_false h
    have hc : IntKind.i64.wrap (x : Int) = (x : Int) := by
      rw [IntKind.wrap_i64]; omega
    have hl : ¬ (x : Int) < 0 := by omega
    rw [e]
    go_enter Tryz.func134, Tryz.ntmps134
    go_wp2
    go_ret
    exact ⟨rfl, rfl⟩
theorem spec_cells {W : World} {B : Nat} {t : TypeId} {m p b a z : Bool} {wd pr c : Int} (h : Five W B #[.bool m, .bool p, .bool b, .bool a, .bool z, .int .i64 wd, .int .i64 pr, .int .u8 c] t) : W.cell? ⟨B, 0, none⟩ = some (.bool m) ∧ W.cell? ⟨B, 1, none⟩ = some (.bool p) ∧ W.cell? ⟨B, 2, none⟩ = some (.bool b) ∧ W.cell? ⟨B, 3, none⟩ = some (.bool a) ∧ W.cell? ⟨B, 4, none⟩ = some (.bool z) ∧ W.cell? ⟨B, 5, none⟩ = some (.int .i64 wd) ∧ W.cell? ⟨B, 6, none⟩ = some (.int .i64 pr) ∧ W.cell? ⟨B, 7, none⟩ = some (.int .u8 c) :=
  ⟨h.cell 0, h.cell 1, h.cell 2, h.cell 3, h.cell 4, h.cell 5, h.cell 6, h.cell 7⟩
theorem Five.three {W : World} {g : Nat} {a b c : Value} {t : TypeId} (h : Five W g #[a, b, c] t) : W.cell? ⟨g, 0, none⟩ = some a ∧ W.cell? ⟨g, 1, none⟩ = some b ∧ W.cell? ⟨g, 2, none⟩ = some c ∧ W.frozen? ⟨g, 0, none⟩ = false ∧ W.frozen? ⟨g, 1, none⟩ = false ∧ W.frozen? ⟨g, 2, none⟩ = false :=
  ⟨h.cell 0, h.cell 1, h.cell 2, h.fro 0, h.fro 1, h.fro 2⟩
theorem pointed_end {w wc W4 : World} {B g : Nat} (SG D : ByteArray) (hB : Below B w wc) (hBw : B ≤ wc.heap.size) (hg : B + 2 ≤ g) (_F : Five wc g #[.string SG, .string ⟨#[]⟩, .string ⟨#[]⟩] 111) (R : Five wc (B + 1) #[.string ⟨#[]⟩, .string ⟨#[]⟩, .string ⟨#[]⟩] 111) (h4 : Below wc.heap.size wc W4) :
    ((((W4.setCell ⟨g, 2, none⟩ (.string D)).setCell ⟨B + 1, 0, none⟩ (.string SG)).setCell ⟨B + 1, 1, none⟩ (.string ⟨#[]⟩)).setCell ⟨B + 1, 2, none⟩ (.string D)).cell? ⟨B + 1, 0, none⟩ = some (.string SG)
    ∧ ((((W4.setCell ⟨g, 2, none⟩ (.string D)).setCell ⟨B + 1, 0, none⟩ (.string SG)).setCell ⟨B + 1, 1, none⟩ (.string ⟨#[]⟩)).setCell ⟨B + 1, 2, none⟩ (.string D)).cell? ⟨B + 1, 1, none⟩ = some (.string ⟨#[]⟩)
    ∧ ((((W4.setCell ⟨g, 2, none⟩ (.string D)).setCell ⟨B + 1, 0, none⟩ (.string SG)).setCell ⟨B + 1, 1, none⟩ (.string ⟨#[]⟩)).setCell ⟨B + 1, 2, none⟩ (.string D)).cell? ⟨B + 1, 2, none⟩ = some (.string D)
    ∧ Below B w ((((W4.setCell ⟨g, 2, none⟩ (.string D)).setCell ⟨B + 1, 0, none⟩ (.string SG)).setCell ⟨B + 1, 1, none⟩ (.string ⟨#[]⟩)).setCell ⟨B + 1, 2, none⟩ (.string D)) := by
  have hne : B + 1 ≠ g := by omega
  have z : Five ((((W4.setCell ⟨g, 2, none⟩ (.string D)).setCell ⟨B + 1, 0, none⟩ (.string SG)).setCell ⟨B + 1, 1, none⟩ (.string ⟨#[]⟩)).setCell ⟨B + 1, 2, none⟩ (.string D)) (B + 1) #[.string SG, .string ⟨#[]⟩, .string D] 111 :=
    (((((R.below h4).other (j := 2) (u := .string D) hne).set (j := 0) (u := .string SG)).set (j := 1) (u := .string ⟨#[]⟩)).set (j := 2) (u := .string D))
  exact ⟨z.cell 0, z.cell 1, z.cell 2, ((((hB.trans (h4.mono hBw)).setCell (p := ⟨g, 2, none⟩) (show B ≤ g by omega) _).setCell (p := ⟨B + 1, 0, none⟩) (show B ≤ B + 1 by omega) _).setCell (p := ⟨B + 1, 1, none⟩) (show B ≤ B + 1 by omega) _).setCell (p := ⟨B + 1, 2, none⟩) (show B ≤ B + 1 by omega) _⟩
/-- The digits of a number by a verb with a point. -/
noncomputable def ptD (r : Nat) (pr : Int) (a : Bool) (c : Nat) : List UInt8 :=
  if c = 102 ∨ c = 70 then fixP r (if pr < 0 then 6 else pr).toNat a
  else if c = 101 ∨ c = 69 then ptT (sciX r (if pr < 0 then 6 else pr).toNat).1 (decide (0 < (if pr < 0 then 6 else pr).toNat) || a) ++ expT (sciX r (if pr < 0 then 6 else pr).toNat).2
  else genT r ((max 1 (if pr < 0 then 6 else pr)) - 1).toNat a
set_option maxRecDepth 100000 in
set_option maxHeartbeats 4000000 in
theorem pointed_start (m p b a z : Bool) (wd pr : Int) (c : Nat) (x q : Nat) (SG D : ByteArray) (w : World) (hb : x < 18446744073709551616) (hSG : ⟨(signL p b c (sbB x)).toArray⟩ = SG) (hq : (q : Int) = if pr < 0 then 6 else pr)
    (hD : (∃ _ : c = 102 ∨ c = 70, ∀ W, Calls Tryz.prog 135 #[.float .f64 x, .int .i64 (q : Int), .bool a] W fun e w' => e = .returned (.string D) ∧ Below W.heap.size W w')
      ∨ (∃ (_ : c = 101 ∨ c = 69) (D1 D2 : ByteArray), D = D1 ++ D2 ∧ D1.size ≤ 10000 ∧ D2.size ≤ 10000 ∧ ∀ W, PowTab W → Calls Tryz.prog 136 #[.float .f64 x, .int .i64 (q : Int), .bool a] W fun e w' => e = .returned (.tuple #[.string D1, .string D2]) ∧ Below W.heap.size W w')
      ∨ (∃ (_ : ¬ (c = 102 ∨ c = 70) ∧ ¬ (c = 101 ∨ c = 69)) (k : Nat), max (1 : Int) (q : Int) = (k : Int) ∧ ∀ W, PowTab W → Calls Tryz.prog 137 #[.float .f64 x, .int .i64 (k : Int), .bool a] W fun e w' => e = .returned (.string D) ∧ Below W.heap.size W w'))
    (hT : PowTab w) :
    Calls Tryz.prog 78 #[.agg #[.bool m, .bool p, .bool b, .bool a, .bool z, .int .i64 wd, .int .i64 pr, .int .u8 (c : Int)], .float .f64 x] w fun e w' => e = .returned (.agg #[.string SG, .string ⟨#[]⟩, .string D]) ∧ Below w.heap.size w w' := by
  have CS := Lib.hid (fun W => signbit_any x W hb)
  have cG := fun W => sign_any m p b a z wd pr c (sbB x) W
  rw [hSG] at cG
  have CG := Lib.hid cG
  have fP := (Five.new w #[.bool m, .bool p, .bool b, .bool a, .bool z, .int .i64 wd, .int .i64 pr, .int .u8 (c : Int)] 35).alloc (.cells #[.string ⟨#[]⟩, .string ⟨#[]⟩, .string ⟨#[]⟩] 111)
  have fR := Five.new (w.alloc (.cells #[.bool m, .bool p, .bool b, .bool a, .bool z, .int .i64 wd, .int .i64 pr, .int .u8 (c : Int)] 35)) #[.string ⟨#[]⟩, .string ⟨#[]⟩, .string ⟨#[]⟩] 111
  have hB0 := ((Below.refl w.heap.size w).alloc (Nat.le_refl _) (.cells #[.bool m, .bool p, .bool b, .bool a, .bool z, .int .i64 wd, .int .i64 pr, .int .u8 (c : Int)] 35)).alloc (by simp) (.cells #[.string ⟨#[]⟩, .string ⟨#[]⟩, .string ⟨#[]⟩] 111)
  rw [World.size_alloc] at fR
  have hsz : ((w.alloc (.cells #[.bool m, .bool p, .bool b, .bool a, .bool z, .int .i64 wd, .int .i64 pr, .int .u8 (c : Int)] 35)).alloc (.cells #[.string ⟨#[]⟩, .string ⟨#[]⟩, .string ⟨#[]⟩] 111)).heap.size = w.heap.size + 2 := by rw [World.size_alloc, World.size_alloc]
  have HT := Lib.hid (Lib.tabBelow_of_tabIs hT)
  obtain ⟨B, hB⟩ : ∃ B, w.heap.size = B := ⟨_, rfl⟩
  obtain ⟨W2, hW2⟩ : ∃ W2, (w.alloc (.cells #[.bool m, .bool p, .bool b, .bool a, .bool z, .int .i64 wd, .int .i64 pr, .int .u8 (c : Int)] 35)).alloc (.cells #[.string ⟨#[]⟩, .string ⟨#[]⟩, .string ⟨#[]⟩] 111) = W2 := ⟨_, rfl⟩
  rw [hW2] at fP fR hB0 hsz
  rw [hB] at fP fR hB0 hsz HT ⊢
  have FP := Lib.hid fP
  have FR := Lib.hid fR
  have HB0 := Lib.hid hB0
  have HSZ := Lib.hid hsz
  have HW2 := Lib.hid hW2
  have HB := Lib.hid hB
  have hq0 : (if pr < 0 then (6 : Int) else pr) = (q : Int) := hq.symm
  have HQ := Lib.hid hq
  have HDD := Lib.hid hD
  clear fP fR hB0 hsz hW2 hB hT hD hq hSG cG hq0
  go_enter Tryz.func78, Tryz.ntmps78
  go_wp2_with fail
  rw [HW2.out, HB.out]
  go_cut [5] (fun v wx => ∃ g : Nat, v = .pointer (some ⟨g, 0, none⟩) ∧ B + 2 ≤ g ∧ Five wx g #[.string SG, .string ⟨#[]⟩, .string ⟨#[]⟩] 111 ∧ Below W2.heap.size W2 wx)
  case first =>
    have HCW := Lib.hid (fun (W : World) (h : Below W2.heap.size W2 W) => spec_cells (FP.out.below h))
    obtain ⟨p0, p1, p2, p3, p4, p5, p6, p7⟩ := spec_cells FP.out
    have hA := (Below.refl W2.heap.size W2).alloc (Nat.le_refl _) (.cells #[.string ⟨#[]⟩, .string ⟨#[]⟩, .string ⟨#[]⟩] 111)
    have HN := Lib.hid (Five.new W2 #[.string ⟨#[]⟩, .string ⟨#[]⟩, .string ⟨#[]⟩] 111)
    have HA := Lib.hid hA
    clear hA
    have ne1 : ¬ B = W2.heap.size := by have := HSZ.out; omega
    have ne2 : ¬ W2.heap.size = B := by have := HSZ.out; omega
    go_region_held3 (fun w' => w'.cell? ⟨B, 0, none⟩ = some (.bool m) ∧ w'.cell? ⟨B, 1, none⟩ = some (.bool p) ∧ w'.cell? ⟨B, 2, none⟩ = some (.bool b) ∧ w'.cell? ⟨B, 3, none⟩ = some (.bool a) ∧ w'.cell? ⟨B, 4, none⟩ = some (.bool z) ∧ w'.cell? ⟨B, 5, none⟩ = some (.int .i64 wd) ∧ w'.cell? ⟨B, 6, none⟩ = some (.int .i64 pr) ∧ w'.cell? ⟨B, 7, none⟩ = some (.int .u8 (c : Int)))
      (first | (with_reducible exact S1) | go_keep)
      (first
      | (go_at_call 134; (with_reducible refine (CS.out _).mono ?_); rintro e W3 ⟨rfl, rfl⟩)
      | (go_at_call 130; (with_reducible refine (CG.out _).mono ?_); rintro e W3 ⟨rfl, h3⟩
         first
         | (have b3 : Below W2.heap.size W2 W3 := ⟨h3.os, h3.tape, h3.output, h3.size, h3.block⟩
            have S1 := HCW.out _ b3
            have ne3 : ¬ B = W3.heap.size := by have := b3.size; have := HSZ.out; omega
            have ne4 : ¬ W3.heap.size = B := by have := b3.size; have := HSZ.out; omega)
         | (have a3 : Below (W2.alloc (.cells #[.string ⟨#[]⟩, .string ⟨#[]⟩, .string ⟨#[]⟩] 111)).heap.size (W2.alloc (.cells #[.string ⟨#[]⟩, .string ⟨#[]⟩, .string ⟨#[]⟩] 111)) W3 := ⟨h3.os, h3.tape, h3.output, h3.size, h3.block⟩
            have b3 : Below W2.heap.size W2 W3 := HA.out.trans (a3.mono HA.out.size)
            have S1 := HCW.out _ b3
            have N3 := Lib.hid (HN.out.below a3)
            obtain ⟨q0, q1, q2, q3, q4, q5⟩ := N3.out.three)))
    all_goals
      go_wp2_with fail
      go_meet
      first
      | exact ⟨W3.heap.size, rfl, by have := b3.size; have := HSZ.out; omega, Five.new W3 _ _, b3.alloc b3.size _⟩
      | exact ⟨W2.heap.size, rfl, by have := HSZ.out; omega, (((N3.out.set (j := 0) (u := .string SG)).set (j := 1) (u := .string ⟨#[]⟩)).set (j := 2) (u := .string ⟨#[]⟩)), ((b3.setCell (p := ⟨W2.heap.size, 0, none⟩) (Nat.le_refl _) _).setCell (p := ⟨W2.heap.size, 1, none⟩) (Nat.le_refl _) _).setCell (p := ⟨W2.heap.size, 2, none⟩) (Nat.le_refl _) _⟩
  case rest =>
    obtain ⟨g, rfl, hg, F5, hBx⟩ := hcut
    obtain ⟨-, -, -, p3, -, -, p6, p7⟩ := spec_cells (FP.out.below hBx)
    have hBw : B ≤ wc.heap.size := by have := hBx.size; have := HSZ.out; omega
    have HBW := Lib.hid (HB0.out.trans (hBx.mono (show B ≤ W2.heap.size by have := HSZ.out; omega)))
    have HTW := Lib.hid (HT.out wc HBW.out)
    have HF5 := Lib.hid F5
    have HFR := Lib.hid (FR.out.below hBx)
    have FIN := Lib.hid (fun (W4 : World) (D : ByteArray) (h4 : Below wc.heap.size wc W4) => pointed_end (B := B) SG D HBW.out hBw hg HF5.out HFR.out h4)
    have HG := Lib.hid hg
    clear F5 hBx hg hBw
    go_upto_if 17 with (fail)
    go_cut [6] (fun v wx => v = .int .i64 (q : Int) ∧ wx = wc)
    case first =>
      have HQv := HQ.out
      by_cases hpr : pr < 0
      · rw [if_pos hpr] at HQv
        obtain rfl : q = 6 := by omega
        clear HQv
        go_wp2_with fail
        go_meet
        exact ⟨rfl, rfl⟩
      · rw [if_neg hpr] at HQv
        obtain rfl : pr = (q : Int) := HQv.symm
        clear HQv
        go_wp2_with fail
        go_meet
        exact ⟨rfl, rfl⟩
    case rest =>
      obtain ⟨rfl, rfl⟩ := hcut
      rcases HDD.out with ⟨h, C⟩ | ⟨h, D1, D2, rfl, hs1, hs2, C⟩ | ⟨h, k, hk, C⟩
      · have C := Lib.hid C
        clear HDD
        rcases h with rfl | rfl
        all_goals
          go_wp2_with fail
          refine (C.out _).mono ?_
          rintro e W4 ⟨rfl, h4⟩
          clear p3 p6 p7
          obtain ⟨q0, q1, q2, r0, r1, r2⟩ := (HF5.out.below h4).three
          obtain ⟨s0, s1, s2, t0, t1, t2⟩ := (HFR.out.below h4).three
          have ne1 : ¬ B + 1 = g := by have := HG.out; omega
          have ne2 : ¬ g = B + 1 := by have := HG.out; omega
          have H4 := Lib.hid h4
          clear h4
          go_wp2_with fail
          obtain ⟨z0, z1, z2, hBf⟩ := FIN.out _ D H4.out
          clear q0 q1 q2 r0 r1 r2 s0 s1 s2 t0 t1 t2
          refine bodyPost_ret (v := .agg #[.string SG, .string ⟨#[]⟩, .string D]) (by simp [results, Tryz.results78, go_sem, z0, z1, z2]) rfl ⟨rfl, hBf⟩
      · have C := Lib.hid C
        clear HDD
        rcases h with rfl | rfl
        all_goals
          go_wp2_with fail
          refine (C.out _ HTW.out).mono ?_
          rintro e W4 ⟨rfl, h4⟩
          clear p3 p6 p7
          obtain ⟨q0, q1, q2, r0, r1, r2⟩ := (HF5.out.below h4).three
          obtain ⟨s0, s1, s2, t0, t1, t2⟩ := (HFR.out.below h4).three
          have ne1 : ¬ B + 1 = g := by have := HG.out; omega
          have ne2 : ¬ g = B + 1 := by have := HG.out; omega
          have H4 := Lib.hid h4
          clear h4
          go_wp2_with fail
          obtain ⟨z0, z1, z2, hBf⟩ := FIN.out _ (D1 ++ D2) H4.out
          clear q0 q1 q2 r0 r1 r2 s0 s1 s2 t0 t1 t2
          refine bodyPost_ret (v := .agg #[.string SG, .string ⟨#[]⟩, .string (D1 ++ D2)]) (by simp [results, Tryz.results78, go_sem, z0, z1, z2]) rfl ⟨rfl, hBf⟩
      · have C := Lib.hid C
        have v1 : ((c : Int) == 102) = false := by rw [beq_eq_false_iff_ne]; have := h.1; omega
        have v2 : ((c : Int) == 70) = false := by rw [beq_eq_false_iff_ne]; have := h.1; omega
        have v3 : ((c : Int) == 101) = false := by rw [beq_eq_false_iff_ne]; have := h.2; omega
        have v4 : ((c : Int) == 69) = false := by rw [beq_eq_false_iff_ne]; have := h.2; omega
        clear h HDD
        go_wp2_with fail
        refine (C.out _ HTW.out).mono ?_
        rintro e W4 ⟨rfl, h4⟩
        clear p3 p6 p7
        obtain ⟨q0, q1, q2, r0, r1, r2⟩ := (HF5.out.below h4).three
        obtain ⟨s0, s1, s2, t0, t1, t2⟩ := (HFR.out.below h4).three
        have ne1 : ¬ B + 1 = g := by have := HG.out; omega
        have ne2 : ¬ g = B + 1 := by have := HG.out; omega
        have H4 := Lib.hid h4
        clear h4
        go_wp2_with fail
        obtain ⟨z0, z1, z2, hBf⟩ := FIN.out _ D H4.out
        clear q0 q1 q2 r0 r1 r2 s0 s1 s2 t0 t1 t2
        refine bodyPost_ret (v := .agg #[.string SG, .string ⟨#[]⟩, .string D]) (by simp [results, Tryz.results78, go_sem, z0, z1, z2]) rfl ⟨rfl, hBf⟩
theorem sgn_len (p b : Bool) (c : Nat) (s : Bool) : (signL p b c s).length ≤ 1 := by
  unfold signL
  cases s <;> cases vMin.contains c.toUInt8 <;> cases p <;> cases b <;> decide
theorem pointed_any (m p b a z : Bool) (wd pr : Int) (c : Nat) (x : Nat) (w : World) (hb : x < 18446744073709551616) (h : mag x < 9218868437227405312) (h0 : -1 ≤ pr) (h1 : pr ≤ 190) (hT : PowTab w) :
    Calls Tryz.prog 78 #[.agg #[.bool m, .bool p, .bool b, .bool a, .bool z, .int .i64 wd, .int .i64 pr, .int .u8 (c : Int)], .float .f64 x] w fun e w' => e = .returned (.agg #[.string ⟨(signL p b c (sbB x)).toArray⟩, .string ⟨#[]⟩, .string ⟨(ptD (mag x) pr a c).toArray⟩]) ∧ Below w.heap.size w w' := by
  obtain ⟨q, hq⟩ : ∃ q : Nat, (q : Int) = if pr < 0 then 6 else pr := ⟨(if pr < 0 then 6 else pr).toNat, by split <;> omega⟩
  have hq2 : q ≤ 190 := by split at hq <;> omega
  have hqn : (if pr < 0 then (6 : Int) else pr).toNat = q := by rw [← hq, Int.toNat_natCast]
  refine pointed_start m p b a z wd pr c x q _ _ w hb rfl hq ?_ hT
  unfold ptD
  rw [hqn, ← hq]
  by_cases c1 : c = 102 ∨ c = 70
  · refine Or.inl ⟨c1, fun W => ?_⟩
    rw [if_pos c1]
    exact ffix_any x q a W hb h (by omega)
  · rw [if_neg c1]
    by_cases c2 : c = 101 ∨ c = 69
    · obtain ⟨hl, -, b0, b1⟩ := sciX_facts w h (show q ≤ 200 by omega)
      refine Or.inr (Or.inl ⟨c2, ⟨(ptT (sciX (mag x) q).1 (decide (0 < q) || a)).toArray⟩, ⟨(expT (sciX (mag x) q).2).toArray⟩, ?_, ?_, ?_, fun W hW => fsci_any x q a W hb h (by omega) hW⟩)
      · rw [if_pos c2, ba_cat]
      · rw [← ba_len]
        exact Nat.le_trans (ptT_len _ _) (by rw [hl]; omega)
      · rw [← ba_len]
        exact Nat.le_trans (expT_len b0 b1) (by omega)
    · refine Or.inr (Or.inr ⟨⟨c1, c2⟩, max 1 q, by omega, fun W hW => ?_⟩)
      rw [if_neg c2, show (max (1 : Int) (q : Int) - 1).toNat = max 1 q - 1 by omega]
      exact gen_any x (max 1 q - 1) (max 1 q) a W hb h (by omega) (by omega) hW
end Go.Proofs.YtbbbdcohkfijoaaGreatDoor

namespace Go.Proofs.YtbbbdcohkfijoaaGreatDoor
open Go.RowKit Go.Lib

def AscL (l : List UInt8) : Prop := ∀ c ∈ l, c.toNat < 128
theorem upper_asc (s : ByteArray) (w : World) (hs : s.size ≤ 100000) (ha : AscL s.data.toList) : Calls Tryz.prog 133 #[.string s] w fun e w' => e = .returned (.string ⟨(Lib.toUpperA s.data.toList).toArray⟩) ∧ Below w.heap.size w w' :=
  Tryz.strings_ToUpper_ascii s w (by omega) (fun j b hb => ha b (List.mem_of_getElem? hb))
theorem upper_len (l : List UInt8) : (Lib.toUpperA l).length = l.length := by unfold Lib.toUpperA; rw [List.length_map]
theorem ba_three (a b d : ByteArray) : a ++ b ++ d = ⟨(a.data.toList ++ b.data.toList ++ d.data.toList).toArray⟩ := by
  apply ByteArray.ext
  apply Array.toList_inj.1
  rw [ByteArray.data_append, ByteArray.data_append, Array.toList_append, Array.toList_append]
theorem ba_four (a b z d : ByteArray) : a ++ b ++ z ++ d = ⟨(a.data.toList ++ (b.data.toList ++ (z.data.toList ++ d.data.toList))).toArray⟩ := by
  apply ByteArray.ext
  apply Array.toList_inj.1
  rw [ByteArray.data_append, ByteArray.data_append, ByteArray.data_append, Array.toList_append, Array.toList_append, Array.toList_append, List.append_assoc, List.append_assoc]
def PadEnd (w : World) (X : ByteArray) (e : Ending) (w' : World) : Prop := e = .returned (.string X) ∧ Below w.heap.size w w'
set_option maxRecDepth 100000 in
set_option maxHeartbeats 8000000 in
theorem padded_core (m p b a z : Bool) (wd pr : Int) (c : Nat) (no : Bool) (SG BS DS BU DU X : ByteArray) (w : World) (hw0 : -100000 ≤ wd) (hw1 : wd ≤ 100000) (s1 : SG.size ≤ 10) (s2 : BS.size ≤ 10) (s3 : DS.size ≤ 20000) (a2 : AscL BS.data.toList) (a3 : AscL DS.data.toList)
    (hU : if vCap.contains c.toUInt8 = true then BU = ⟨(Lib.toUpperA BS.data.toList).toArray⟩ ∧ DU = ⟨(Lib.toUpperA DS.data.toList).toArray⟩ else BU = BS ∧ DU = DS)
    (hX : X = ⟨(laidL SG.data.toList BU.data.toList DU.data.toList wd m no).toArray⟩) :
    Calls Tryz.prog 77 #[.agg #[.string SG, .string BS, .string DS], .agg #[.bool m, .bool p, .bool b, .bool a, .bool z, .int .i64 wd, .int .i64 pr, .int .u8 (c : Int)], .bool no] w (PadEnd w X) := by
  have cA := fun W => among_any ⟨#[88, 69, 70, 71]⟩ c W
  replace cA : ∀ w : World, Calls Tryz.prog 73 #[.string ⟨#[88, 69, 70, 71]⟩, .int .u8 (c : Int)] w fun e w' => e = .returned (.bool (vCap.contains c.toUInt8)) ∧ w = w' := cA
  have u2 : BU.size = BS.size := by
    split at hU
    · rw [hU.1, ← ba_len, ← ba_len]; exact upper_len _
    · rw [hU.1]
  have u3 : DU.size = DS.size := by
    split at hU
    · rw [hU.2, ← ba_len, ← ba_len]; exact upper_len _
    · rw [hU.2]
  have t2 : BU.size ≤ 10 := by omega
  have t3 : DU.size ≤ 20000 := by omega
  clear u2 u3
  have CB := Lib.hid (fun W => upper_asc BS W (by omega) a2)
  have CD := Lib.hid (fun W => upper_asc DS W (by omega) a3)
  obtain ⟨v, hv⟩ : ∃ v, vCap.contains c.toUInt8 = v := ⟨_, rfl⟩
  rw [hv] at cA hU
  have CA := Lib.hid cA
  have HU := Lib.hid hU
  clear cA hv hU a2 a3
  have fW := (Five.new w #[.string SG, .string BS, .string DS] 111).alloc (.cells #[.bool m, .bool p, .bool b, .bool a, .bool z, .int .i64 wd, .int .i64 pr, .int .u8 (c : Int)] 35)
  have fP := Five.new (w.alloc (.cells #[.string SG, .string BS, .string DS] 111)) #[.bool m, .bool p, .bool b, .bool a, .bool z, .int .i64 wd, .int .i64 pr, .int .u8 (c : Int)] 35
  have hB0 := ((Below.refl w.heap.size w).alloc (Nat.le_refl _) (.cells #[.string SG, .string BS, .string DS] 111)).alloc (by simp) (.cells #[.bool m, .bool p, .bool b, .bool a, .bool z, .int .i64 wd, .int .i64 pr, .int .u8 (c : Int)] 35)
  rw [World.size_alloc] at fP
  have hsz : ((w.alloc (.cells #[.string SG, .string BS, .string DS] 111)).alloc (.cells #[.bool m, .bool p, .bool b, .bool a, .bool z, .int .i64 wd, .int .i64 pr, .int .u8 (c : Int)] 35)).heap.size = w.heap.size + 2 := by rw [World.size_alloc, World.size_alloc]
  unfold PadEnd
  obtain ⟨B, hB⟩ : ∃ B, w.heap.size = B := ⟨_, rfl⟩
  obtain ⟨W2, hW2⟩ : ∃ W2, (w.alloc (.cells #[.string SG, .string BS, .string DS] 111)).alloc (.cells #[.bool m, .bool p, .bool b, .bool a, .bool z, .int .i64 wd, .int .i64 pr, .int .u8 (c : Int)] 35) = W2 := ⟨_, rfl⟩
  rw [hW2] at fP fW hB0 hsz
  rw [hB] at fP fW hB0 hsz ⊢
  have FP := Lib.hid fP
  have FW := Lib.hid fW
  have HB0 := Lib.hid hB0
  have HSZ := Lib.hid hsz
  have HW2 := Lib.hid hW2
  have HB := Lib.hid hB
  have HX := Lib.hid hX
  clear fP fW hB0 hsz hW2 hB hX
  go_enter Tryz.func77, Tryz.ntmps77
  go_upto_if 11 with (go_at_call 73; refine (CA.out _).mono ?_; rintro e w' ⟨rfl, rfl⟩)
  rw [HW2.out, HB.out]
  go_cut [] (fun wx => Five wx B #[.string SG, .string BU, .string DU] 111 ∧ Five wx (B + 1) #[.bool m, .bool p, .bool b, .bool a, .bool z, .int .i64 wd, .int .i64 pr, .int .u8 (c : Int)] 35 ∧ Below B w wx)
  case first =>
    cases v with
    | false =>
      have hU2 := HU.out
      rw [if_neg (by decide)] at hU2
      obtain ⟨rfl, rfl⟩ := hU2
      go_wp2_with fail
      go_meet
      exact ⟨FW.out, FP.out, HB0.out⟩
    | true =>
      have hU2 := HU.out
      rw [if_pos rfl] at hU2
      obtain ⟨hU3, hU4⟩ := hU2
      have CB := CB.out
      have CD := CD.out
      rw [← hU3] at CB
      rw [← hU4] at CD
      have CB := Lib.hid CB
      have CD := Lib.hid CD
      clear hU3 hU4
      have HCW := Lib.hid (fun (W : World) (h : Below W2.heap.size W2 W) => (FW.out.below h).three)
      obtain ⟨q0, q1, q2, r0, r1, r2⟩ := FW.out.three
      go_wp2_with fail
      go_region_with (first
        | (go_at_call 133; (with_reducible refine (CB.out _).mono ?_); rintro e W3 ⟨rfl, h3⟩; have b3 : Below W2.heap.size W2 W3 := ⟨h3.os, h3.tape, h3.output, h3.size, h3.block⟩; obtain ⟨q0, q1, q2, r0, r1, r2⟩ := HCW.out _ b3; clear h3)
        | (go_at_call 133; (with_reducible refine (CD.out _).mono ?_); rintro e W4 ⟨rfl, h4⟩; have b4 : Below W2.heap.size W2 W4 := b3.trans ((⟨h4.os, h4.tape, h4.output, h4.size, h4.block⟩ : Below W3.heap.size W3 W4).mono b3.size); obtain ⟨q0, q1, q2, r0, r1, r2⟩ := HCW.out _ b4; clear h4))
      all_goals
        go_wp2_with fail
        go_meet
        have f4 : Five ((W4.setCell ⟨B, 1, none⟩ (.string BU)).setCell ⟨B, 2, none⟩ (.string DU)) B #[.string SG, .string BU, .string DU] 111 := ((FW.out.below b4).set (j := 1) (u := .string BU)).set (j := 2) (u := .string DU)
        have p4 : Five ((W4.setCell ⟨B, 1, none⟩ (.string BU)).setCell ⟨B, 2, none⟩ (.string DU)) (B + 1) #[.bool m, .bool p, .bool b, .bool a, .bool z, .int .i64 wd, .int .i64 pr, .int .u8 (c : Int)] 35 := ((FP.out.below b4).other (j := 1) (u := .string BU) (by omega)).other (j := 2) (u := .string DU) (by omega)
        have hB4 : Below B w ((W4.setCell ⟨B, 1, none⟩ (.string BU)).setCell ⟨B, 2, none⟩ (.string DU)) := ((HB0.out.trans (b4.mono (by have := HSZ.out; omega))).setCell (p := ⟨B, 1, none⟩) (Nat.le_refl _) _).setCell (p := ⟨B, 2, none⟩) (Nat.le_refl _) _
        first
        | exact ⟨f4, p4, hB4⟩
        | exact ⟨⟨f4.row⟩, ⟨p4.row⟩, ⟨hB4.os, hB4.tape, hB4.output, hB4.size, hB4.block⟩⟩
  case rest =>
    obtain ⟨F, Pc, hBx⟩ := hcut
    obtain ⟨q0, q1, q2, -, -, -⟩ := F.three
    obtain ⟨p0, -, -, -, -, p5, -, -⟩ := spec_cells Pc
    have hBw : B ≤ wc.heap.size := Nat.le_of_lt F.lt
    have HBX := Lib.hid hBx
    have HF := Lib.hid F
    have hlen : ((SG.data.toList ++ BU.data.toList ++ DU.data.toList).length : Int) = (SG.size : Int) + (BU.size : Int) + (DU.size : Int) := by
      rw [List.length_append, List.length_append, ba_len, ba_len, ba_len]; omega
    have hbd : (SG ++ BU ++ DU).size ≤ 1099511627776 := by rw [ByteArray.size_append, ByteArray.size_append]; omega
    have CF := Lib.hid (fun W => fill_any (SG ++ BU ++ DU) (wd - ((SG.size : Int) + (BU.size : Int) + (DU.size : Int))) m W hbd (by omega) (by omega))
    have CR := Lib.hid (fun W => rep_any 48 (wd - ((SG.size : Int) + (BU.size : Int) + (DU.size : Int))) W (by omega) (by omega))
    have HX2 := Lib.hid (show X = (if no = true ∧ m = false then SG ++ BU ++ ⟨(List.replicate (wd - ((SG.size : Int) + (BU.size : Int) + (DU.size : Int))).toNat (48 : UInt8)).toArray⟩ ++ DU else ⟨(fillL (SG ++ BU ++ DU).data.toList (wd - ((SG.size : Int) + (BU.size : Int) + (DU.size : Int))) m).toArray⟩) by
      rw [HX.out]
      unfold laidL
      rw [hlen]
      split
      · rw [ba_four]
      · rw [ba_three])
    clear hlen hbd F Pc hBx HX HU CB CD CA FP FW HSZ HB0
    by_cases hc : no = true ∧ m = false
    · have HX3 := HX2.out
      rw [if_pos hc] at HX3
      obtain ⟨rfl, rfl⟩ := hc
      obtain ⟨Z, hZ⟩ : ∃ Z : ByteArray, (⟨(List.replicate (wd - ((SG.size : Int) + (BU.size : Int) + (DU.size : Int))).toNat (48 : UInt8)).toArray⟩ : ByteArray) = Z := ⟨_, rfl⟩
      have hZs : Z.size ≤ 1000000 := by rw [← ba_len, ← hZ]; show (List.replicate _ (48 : UInt8)).length ≤ _; rw [List.length_replicate]; omega
      have c1 : ¬ 9223372036854775807 < SG.size + BU.size := by omega
      have c2 : ¬ 9223372036854775807 < SG.size + BU.size + Z.size := by omega
      have c3 : ¬ 9223372036854775807 < SG.size + BU.size + Z.size + DU.size := by omega
      have CR := CR.out
      rw [hZ] at CR HX3
      have CR := Lib.hid CR
      have HX3 := Lib.hid HX3
      clear hZ HX2 CF
      have HCW := Lib.hid (fun (W : World) (h : Below wc.heap.size wc W) => (show W.cell? ⟨B, 0, none⟩ = some (.string SG) ∧ W.cell? ⟨B, 1, none⟩ = some (.string BU) ∧ W.cell? ⟨B, 2, none⟩ = some (.string DU) from ⟨(HF.out.below h).cell 0, (HF.out.below h).cell 1, (HF.out.below h).cell 2⟩))
      go_wp2_with fail
      go_region_held3 (fun w' => w'.cell? ⟨B, 0, none⟩ = some (.string SG) ∧ w'.cell? ⟨B, 1, none⟩ = some (.string BU) ∧ w'.cell? ⟨B, 2, none⟩ = some (.string DU))
        (first | (with_reducible exact S1) | go_keep)
        (first
        | (go_at_call 129; (with_reducible refine (CR.out _).mono ?_); rintro e W3 ⟨rfl, h3⟩; have b3 : Below wc.heap.size wc W3 := ⟨h3.os, h3.tape, h3.output, h3.size, h3.block⟩; have S1 := HCW.out _ b3; clear h3))
      all_goals
        have hBf := HBX.out.trans (b3.mono hBw)
        go_wp2_with fail
        go_ret
        exact ⟨by show Ending.returned (.string (SG ++ BU ++ Z ++ DU)) = _; rw [HX3.out], by first | exact hBf | exact ⟨hBf.os, hBf.tape, hBf.output, hBf.size, hBf.block⟩⟩
    · have HX3 := HX2.out
      rw [if_neg hc] at HX3
      have CF := CF.out
      obtain ⟨Y, hY⟩ : ∃ Y : ByteArray, (⟨(fillL (SG ++ BU ++ DU).data.toList (wd - ((SG.size : Int) + (BU.size : Int) + (DU.size : Int))) m).toArray⟩ : ByteArray) = Y := ⟨_, rfl⟩
      rw [hY] at CF HX3
      have CF := Lib.hid CF
      have HX3 := Lib.hid HX3
      clear HX2 CR hY
      have hc2 : no = false ∨ (no = true ∧ m = true) := by
        cases no
        · exact Or.inl rfl
        · cases m
          · exact absurd ⟨rfl, rfl⟩ hc
          · exact Or.inr ⟨rfl, rfl⟩
      clear hc
      rcases hc2 with rfl | ⟨rfl, rfl⟩
      all_goals
        go_wp2_with fail
        refine (CF.out _).mono ?_
        rintro e W3 ⟨rfl, h3⟩
        have hBf := HBX.out.trans (h3.mono hBw)
        clear h3
        go_wp2_with fail
        go_ret
        exact ⟨by show Ending.returned (.string Y) = _; rw [HX3.out], hBf⟩
theorem asc_dec {l : List UInt8} (h : Dec l) : AscL l := fun c hc => by have := h c hc; omega
theorem asc_app {l k : List UInt8} (h : AscL l) (g : AscL k) : AscL (l ++ k) := fun c hc => (List.mem_append.1 hc).elim (h c) (g c)
theorem asc_sub {l k : List UInt8} (h : AscL l) (g : ∀ c ∈ k, c ∈ l) : AscL k := fun c hc => h c (g c hc)
theorem asc_cons {x : UInt8} {l : List UInt8} (hx : x.toNat < 128) (h : AscL l) : AscL (x :: l) := fun c hc => by
  rcases List.mem_cons.1 hc with rfl | hc
  · exact hx
  · exact h c hc
theorem asc_nil : AscL [] := fun c hc => by cases hc
theorem asc_ptT {d : List UInt8} (h : Dec d) (q : Bool) : AscL (ptT d q) := by
  unfold ptT
  split
  · exact asc_app (asc_dec (dec_take h 1)) (asc_cons (by decide) (asc_dec (dec_drop h 1)))
  · exact asc_dec h
theorem asc_expT (P : Int) : AscL (expT P) := by
  unfold expT
  refine asc_app ?_ (asc_app ?_ (asc_dec (dec_decs _)))
  · split
    · exact asc_cons (by decide) (asc_cons (by decide) asc_nil)
    · exact asc_cons (by decide) (asc_cons (by decide) asc_nil)
  · split
    · exact asc_cons (by decide) asc_nil
    · exact asc_nil
theorem asc_fixP (r q : Nat) (full : Bool) : AscL (fixP r q full) := by
  unfold fixP
  refine asc_app ?_ ?_
  · unfold fixT
    split
    · exact asc_dec (dec_decs _)
    · exact asc_app (asc_dec (dec_take (padT_dec (dec_decs _) _) _)) (asc_cons (by decide) (asc_dec (dec_drop (padT_dec (dec_decs _) _) _)))
  · split
    · exact asc_cons (by decide) asc_nil
    · exact asc_nil
theorem asc_trimG (full : Bool) {d : List UInt8} (h : AscL d) : AscL (trimG full d) := by
  unfold trimG
  split
  · refine asc_sub h fun c hc => ?_
    obtain ⟨k, hk⟩ := trim_split d 48
    have h1 : c ∈ Lib.trimRightB d 48 := by
      unfold Lib.trimSuffix at hc
      split at hc
      · exact List.mem_of_mem_take hc
      · exact hc
    rw [hk]
    exact List.mem_append_left _ h1
  · exact h
theorem asc_gen (w : World) {r n : Nat} (hr : r < 9218868437227405312) (hn : n ≤ 200) (full : Bool) : AscL (genT r n full) := by
  unfold genT
  split
  · exact asc_app (asc_trimG _ (asc_ptT (sciX_facts w hr hn).2.1 _)) (asc_expT _)
  · exact asc_trimG _ (asc_fixP _ _ _)
theorem asc_ptD (w : World) {r : Nat} (hr : r < 9218868437227405312) {pr : Int} (_h0 : -1 ≤ pr) (h1 : pr ≤ 190) (a : Bool) (c : Nat) : AscL (ptD r pr a c) := by
  have hq : (if pr < 0 then (6 : Int) else pr).toNat ≤ 190 := by split <;> omega
  have hq2 : (max 1 (if pr < 0 then (6 : Int) else pr) - 1).toNat ≤ 190 := by split <;> omega
  unfold ptD
  split
  · exact asc_fixP _ _ _
  · split
    · exact asc_app (asc_ptT (sciX_facts w hr (by omega)).2.1 _) (asc_expT _)
    · exact asc_gen w hr (by omega) _
theorem trimG_len (full : Bool) (d : List UInt8) : (trimG full d).length ≤ d.length := by
  unfold trimG
  split
  · exact Nat.le_trans (trimS_len _ _) (trimR_len _ _)
  · omega
theorem len_gen (w : World) {r n : Nat} (hr : r < 9218868437227405312) (hn : n ≤ 190) (full : Bool) : (genT r n full).length ≤ 4000 := by
  obtain ⟨hl, -, b0, b1⟩ := sciX_facts w hr (show n ≤ 200 by omega)
  unfold genT
  split
  · rw [List.length_append]
    have h1 := trimG_len full (ptT (sciX r n).1 (decide (0 < n) || full))
    have h2 := ptT_len (sciX r n).1 (decide (0 < n) || full)
    have h3 := expT_len b0 b1
    omega
  · refine Nat.le_trans (trimG_len _ _) (Nat.le_trans (fixP_len hr (by omega) _) (by omega))
theorem len_ptD (w : World) {r : Nat} (hr : r < 9218868437227405312) {pr : Int} (_h0 : -1 ≤ pr) (h1 : pr ≤ 190) (a : Bool) (c : Nat) : (ptD r pr a c).length ≤ 4000 := by
  have hq : (if pr < 0 then (6 : Int) else pr).toNat ≤ 190 := by split <;> omega
  have hq2 : (max 1 (if pr < 0 then (6 : Int) else pr) - 1).toNat ≤ 190 := by split <;> omega
  unfold ptD
  split
  · exact Nat.le_trans (fixP_len hr (by omega) _) (by omega)
  · split
    · obtain ⟨hl, -, b0, b1⟩ := sciX_facts w hr (show (if pr < 0 then (6 : Int) else pr).toNat ≤ 200 by omega)
      rw [List.length_append]
      have h2 := ptT_len (sciX r (if pr < 0 then (6 : Int) else pr).toNat).1 (decide (0 < (if pr < 0 then (6 : Int) else pr).toNat) || a)
      have h3 := expT_len b0 b1
      omega
    · exact len_gen w hr (by omega) _
end Go.Proofs.YtbbbdcohkfijoaaGreatDoor

namespace Go.Proofs.YtbbbdcohkfijoaaGreatDoor
open Go.RowKit Go.Lib

/-- Floats in order: a whole number for each that is no NaN. -/
def keyZ (x : Nat) : Int := if (x / 9223372036854775808 % 2 == 1) = true then -(mag x : Int) else (mag x : Int)
theorem cmp_ext {a b c d : Int} (h1 : a < b ↔ c < d) (h2 : a = b ↔ c = d) : compare a b = compare c d := by
  rcases Int.lt_trichotomy a b with h | h | h
  · rw [Int.compare_eq_lt.2 h, Int.compare_eq_lt.2 (h1.1 h)]
  · rw [Int.compare_eq_eq.2 h, Int.compare_eq_eq.2 (h2.1 h)]
  · rw [Int.compare_eq_gt.2 h, Int.compare_eq_gt.2 (by omega)]
theorem cmp_iff {a b c d : Int} (h : compare a b = compare c d) : (a < b ↔ c < d) ∧ (a = b ↔ c = d) :=
  ⟨by rw [← Int.compare_eq_lt, ← Int.compare_eq_lt, h], by rw [← Int.compare_eq_eq, ← Int.compare_eq_eq, h]⟩
theorem manF_zero {r : Nat} : manF r = 0 ↔ r = 0 := by
  unfold manF
  split <;> omega
theorem order_key {x y : Nat} (hx : mag x ≤ 9218868437227405312) (hy : mag y ≤ 9218868437227405312) : Ieee.double.order x y = some (compare (keyZ x) (keyZ y)) := by
  unfold Ieee.Format.order keyZ
  have bx := mag_lt x
  have by' := mag_lt y
  rcases Nat.lt_or_ge (mag x) 9218868437227405312 with h1 | h1
  · rcases Nat.lt_or_ge (mag y) 9218868437227405312 with h2 | h2
    · have hV := order_V h1 h2
      unfold Ieee.Format.order at hV
      rw [read_fin (by rw [mag_no h1]; exact h1), read_fin (by rw [mag_no h2]; exact h2), mag_no h1, mag_no h2] at hV
      rw [read_fin h1, read_fin h2]
      have s1 : (mag x / 9223372036854775808 % 2 == 1) = false := by rw [beq_eq_false_iff_ne]; omega
      have s2 : (mag y / 9223372036854775808 % 2 == 1) = false := by rw [beq_eq_false_iff_ne]; omega
      rw [s1, s2] at hV
      change some (compare (Ieee.signed false (manF (mag x)) (expF (mag x) - min (expF (mag x)) (expF (mag y))).toNat) (Ieee.signed false (manF (mag y)) (expF (mag y) - min (expF (mag x)) (expF (mag y))).toNat)) = _ at hV
      change some (compare (Ieee.signed _ (manF (mag x)) (expF (mag x) - min (expF (mag x)) (expF (mag y))).toNat) (Ieee.signed _ (manF (mag y)) (expF (mag y) - min (expF (mag x)) (expF (mag y))).toNat)) = _
      have hz1 := @manF_zero (mag x)
      have hz2 := @manF_zero (mag y)
      generalize (x / 9223372036854775808 % 2 == 1) = sx
      generalize (y / 9223372036854775808 % 2 == 1) = sy
      generalize (expF (mag x) - min (expF (mag x)) (expF (mag y))).toNat = k1 at *
      generalize (expF (mag y) - min (expF (mag x)) (expF (mag y))).toNat = k2 at *
      generalize manF (mag x) = m1 at *
      generalize manF (mag y) = m2 at *
      unfold Ieee.signed at hV ⊢
      have q1 : m1 <<< k1 = 0 ↔ m1 = 0 := by
        rw [Nat.shiftLeft_eq]
        constructor
        · intro h
          rcases Nat.mul_eq_zero.1 h with h | h
          · exact h
          · have := Nat.pow_pos (n := k1) (show 0 < 2 by omega); omega
        · rintro rfl; exact Nat.zero_mul _
      have q2 : m2 <<< k2 = 0 ↔ m2 = 0 := by
        rw [Nat.shiftLeft_eq]
        constructor
        · intro h
          rcases Nat.mul_eq_zero.1 h with h | h
          · exact h
          · have := Nat.pow_pos (n := k2) (show 0 < 2 by omega); omega
        · rintro rfl; exact Nat.zero_mul _
      generalize m1 <<< k1 = A at *
      generalize m2 <<< k2 = C at *
      obtain ⟨e1, e2⟩ := cmp_iff (Option.some.inj hV)
      simp only [Bool.false_eq_true, ↓reduceIte] at e1 e2
      congr 1
      have n1 : A = 0 ↔ mag x = 0 := q1.trans hz1
      have n2 : C = 0 ↔ mag y = 0 := q2.trans hz2
      clear q1 q2 hz1 hz2 hV
      cases sx <;> cases sy <;> simp only [Bool.false_eq_true, ↓reduceIte]
      all_goals refine cmp_ext ⟨fun h => ?_, fun h => ?_⟩ ⟨fun h => ?_, fun h => ?_⟩ <;> omega
    · rw [read_fin h1, read_inf (by omega)]
      show some (if (y / 9223372036854775808 % 2 == 1) then Ordering.gt else Ordering.lt) = _
      generalize (x / 9223372036854775808 % 2 == 1) = sx
      generalize (y / 9223372036854775808 % 2 == 1) = sy
      congr 1
      cases sx <;> cases sy <;> simp only [Bool.false_eq_true, ↓reduceIte]
      · exact (Int.compare_eq_lt.2 (by omega)).symm
      · exact (Int.compare_eq_gt.2 (by omega)).symm
      · exact (Int.compare_eq_lt.2 (by omega)).symm
      · exact (Int.compare_eq_gt.2 (by omega)).symm
  · rcases Nat.lt_or_ge (mag y) 9218868437227405312 with h2 | h2
    · rw [read_inf (by omega), read_fin h2]
      show some (if (x / 9223372036854775808 % 2 == 1) then Ordering.lt else Ordering.gt) = _
      generalize (x / 9223372036854775808 % 2 == 1) = sx
      generalize (y / 9223372036854775808 % 2 == 1) = sy
      congr 1
      cases sx <;> cases sy <;> simp only [Bool.false_eq_true, ↓reduceIte]
      · exact (Int.compare_eq_gt.2 (by omega)).symm
      · exact (Int.compare_eq_gt.2 (by omega)).symm
      · exact (Int.compare_eq_lt.2 (by omega)).symm
      · exact (Int.compare_eq_lt.2 (by omega)).symm
    · rw [read_inf (by omega), read_inf (by omega)]
      have e1 : mag x = 9218868437227405312 := by omega
      have e2 : mag y = 9218868437227405312 := by omega
      rw [e1, e2]
      generalize (x / 9223372036854775808 % 2 == 1) = sx
      generalize (y / 9223372036854775808 % 2 == 1) = sy
      cases sx <;> cases sy <;> rfl
theorem order_nan_l {x y : Nat} (h : 9218868437227405312 < mag x) : Ieee.double.order x y = none := by
  unfold Ieee.Format.order
  rw [read_nan h]
  rfl
/-- Is it +inf, is it -inf? -/
def infP (x : Nat) : Bool := decide (x = 9218868437227405312)
def infM (x : Nat) : Bool := decide (x = 18442240474082181120)
theorem inf_gt (x : Nat) (hb : x < 18446744073709551616) : (FloatKind.f64.format.order x 9218868437227405311 == some .gt) = infP x := by
  change (Ieee.double.order x 9218868437227405311 == some .gt) = infP x
  have hm : mag 9218868437227405311 = 9218868437227405311 := by decide
  unfold infP
  rcases Nat.lt_or_ge 9218868437227405312 (mag x) with h | h
  · rw [order_nan_l h, decide_eq_false (by unfold mag at h; omega)]
    rfl
  · rw [order_key h (by rw [hm]; decide)]
    have hk : keyZ 9218868437227405311 = 9218868437227405311 := by decide
    rw [hk]
    by_cases he : x = 9218868437227405312
    · rw [decide_eq_true he, he]
      decide
    · rw [decide_eq_false he]
      have hle : keyZ x ≤ 9218868437227405311 := by
        unfold keyZ
        unfold mag at h ⊢
        split
        · omega
        · rename_i hs
          rw [beq_iff_eq] at hs
          omega
      rw [beq_eq_false_iff_ne]
      intro hc
      have := Int.compare_eq_gt.1 (Option.some.inj hc)
      omega
set_option maxRecDepth 100000 in
theorem isInfP_any (x : Nat) (w : World) (hb : x < 18446744073709551616) : Calls Tryz.prog 128 #[.float .f64 x, .int .i64 1] w fun e w' => e = .returned (.bool (infP x)) ∧ w = w' := by
  have h := inf_gt x hb
  go_enter Tryz.func128, Tryz.ntmps128
  go_wp2
  go_ret
  exact ⟨rfl, rfl⟩
theorem neg_infM (x : Nat) (hb : x < 18446744073709551616) : (FloatKind.f64.format.order (Op.negFloat .f64 x) 9218868437227405311 == some .gt) = infM x := by
  rcases Nat.lt_or_ge x 9223372036854775808 with h | h
  · rw [neg_pos h, inf_gt _ (by omega)]
    unfold infP infM
    rw [decide_eq_false (by omega), decide_eq_false (by omega)]
  · obtain ⟨t, rfl⟩ : ∃ t, x = 9223372036854775808 + t := ⟨x - 9223372036854775808, by omega⟩
    rw [neg_neg' (by omega), inf_gt _ (by omega)]
    unfold infP infM
    by_cases ht : t = 9218868437227405312
    · rw [decide_eq_true ht, decide_eq_true (by omega)]
    · rw [decide_eq_false ht, decide_eq_false (by omega)]
set_option maxRecDepth 100000 in
theorem isInfM_any (x : Nat) (w : World) (hb : x < 18446744073709551616) : Calls Tryz.prog 128 #[.float .f64 x, .int .i64 (-1)] w fun e w' => e = .returned (.bool (infM x)) ∧ w = w' := by
  have h := neg_infM x hb
  have hn := fun W => run_neg Tryz.prog x W
  go_enter Tryz.func128, Tryz.ntmps128
  go_wp2
  go_ret
  exact ⟨rfl, rfl⟩
/-- What a number is called that has no digits. -/
def oddL (x : Nat) : Option (List UInt8) := if nanB x = true then some [43, 110, 97, 110] else if infP x = true then some [43, 105, 110, 102] else if infM x = true then some [45, 105, 110, 102] else none
set_option maxRecDepth 100000 in
theorem boundless_any (x : Nat) (w : World) (hb : x < 18446744073709551616) : Calls Tryz.prog 74 #[.float .f64 x] w fun e w' => e = .returned (.tuple #[.string ⟨((oddL x).getD []).toArray⟩, .bool (oddL x).isSome]) ∧ w = w' := by
  have c1 := fun W => isNaN_any x W
  have c2 := fun W => isInfP_any x W hb
  have c3 := fun W => isInfM_any x W hb
  unfold oddL
  generalize nanB x = n at *
  generalize infP x = i at *
  generalize infM x = j at *
  have C1 := Lib.hid c1
  have C2 := Lib.hid c2
  have C3 := Lib.hid c3
  clear c1 c2 c3
  cases n with
  | true =>
    go_enter Tryz.func74, Tryz.ntmps74
    go_wp2_with fail
    refine (C1.out _).mono ?_
    rintro e w' ⟨rfl, rfl⟩
    go_wp2_with fail
    go_ret2
    exact ⟨rfl, rfl⟩
  | false =>
    cases i with
    | true =>
      go_enter Tryz.func74, Tryz.ntmps74
      go_wp2_with fail
      refine (C1.out _).mono ?_
      rintro e w' ⟨rfl, rfl⟩
      go_wp2_with fail
      refine (C2.out _).mono ?_
      rintro e w' ⟨rfl, rfl⟩
      go_wp2_with fail
      go_ret2
      exact ⟨rfl, rfl⟩
    | false =>
      cases j with
      | true =>
        go_enter Tryz.func74, Tryz.ntmps74
        go_wp2_with fail
        refine (C1.out _).mono ?_
        rintro e w' ⟨rfl, rfl⟩
        go_wp2_with fail
        refine (C2.out _).mono ?_
        rintro e w' ⟨rfl, rfl⟩
        go_wp2_with fail
        refine (C3.out _).mono ?_
        rintro e w' ⟨rfl, rfl⟩
        go_wp2_with fail
        go_ret2
        exact ⟨rfl, rfl⟩
      | false =>
        go_enter Tryz.func74, Tryz.ntmps74
        go_wp2_with fail
        refine (C1.out _).mono ?_
        rintro e w' ⟨rfl, rfl⟩
        go_wp2_with fail
        refine (C2.out _).mono ?_
        rintro e w' ⟨rfl, rfl⟩
        go_wp2_with fail
        refine (C3.out _).mono ?_
        rintro e w' ⟨rfl, rfl⟩
        go_wp2_with fail
        go_ret2
        exact ⟨rfl, rfl⟩
theorem odd_none {x : Nat} (h : mag x < 9218868437227405312) : oddL x = none := by
  unfold oddL
  rw [nan_no (by omega), if_neg (by decide)]
  have h1 : infP x = false := decide_eq_false (by rintro rfl; exact absurd h (by decide))
  have h2 : infM x = false := decide_eq_false (by rintro rfl; exact absurd h (by decide))
  rw [h1, h2]
  rfl
end Go.Proofs.YtbbbdcohkfijoaaGreatDoor

namespace Go.Proofs.YtbbbdcohkfijoaaGreatDoor
open Go.RowKit Go.Lib

/-- Capitals, if the verb writes them. -/
def capL (c : Nat) (l : List UInt8) : List UInt8 := if vCap.contains c.toUInt8 = true then Lib.toUpperA l else l
noncomputable def pointT (m p b a z : Bool) (wd pr : Int) (c x : Nat) : List UInt8 := laidL (signL p b c (sbB x)) [] (capL c (ptD (mag x) pr a c)) wd m z
theorem chk_bd {wd pr : Int} {c : Nat} (h : chkB wd pr c = true) : 0 ≤ wd ∧ wd ≤ 1024 ∧ -1 ≤ pr ∧ pr ≤ 190 := by
  unfold chkB at h
  simp only [Bool.and_eq_true, decide_eq_true_eq] at h
  exact ⟨h.1.1.1, h.1.1.2, h.1.2.1, h.1.2.2⟩
set_option maxRecDepth 100000 in
set_option maxHeartbeats 8000000 in
theorem number_point (m p b a z : Bool) (wd pr : Int) (c : Nat) (x : Nat) (w : World) (hb : x < 18446744073709551616) (h : mag x < 9218868437227405312) (hk : chkB wd pr c = true) (hv : vNum.contains c.toUInt8 = true) (hw : vWhole.contains c.toUInt8 = false) (hT : PowTab w) :
    Calls Tryz.prog 25 #[.agg #[.bool m, .bool p, .bool b, .bool a, .bool z, .int .i64 wd, .int .i64 pr, .int .u8 (c : Int)], .float .f64 x] w fun e w' => e = .returned (.tuple #[.string ⟨(pointT m p b a z wd pr c x).toArray⟩, .int .i64 0]) ∧ Below w.heap.size w w' := by
  obtain ⟨d0, d1, d2, d3⟩ := chk_bd hk
  have cK := fun W => check_any m p b a z wd pr c W
  rw [hk, if_pos rfl] at cK
  have cA := fun W => among_any ⟨#[100, 105, 111, 120, 88, 117, 101, 69, 102, 70, 103, 71]⟩ c W
  replace cA : ∀ w : World, Calls Tryz.prog 73 #[.string ⟨#[100, 105, 111, 120, 88, 117, 101, 69, 102, 70, 103, 71]⟩, .int .u8 (c : Int)] w fun e w' => e = .returned (.bool (vNum.contains c.toUInt8)) ∧ w = w' := cA
  rw [hv] at cA
  have cW := fun W => among_any ⟨#[100, 105, 111, 120, 88, 117]⟩ c W
  replace cW : ∀ w : World, Calls Tryz.prog 73 #[.string ⟨#[100, 105, 111, 120, 88, 117]⟩, .int .u8 (c : Int)] w fun e w' => e = .returned (.bool (vWhole.contains c.toUInt8)) ∧ w = w' := cW
  rw [hw] at cW
  have cO := fun W => boundless_any x W hb
  rw [odd_none h] at cO
  replace cO : ∀ w : World, Calls Tryz.prog 74 #[.float .f64 x] w fun e w' => e = .returned (.tuple #[.string ⟨#[]⟩, .bool false]) ∧ w = w' := cO
  have cP := fun W hW => pointed_any m p b a z wd pr c x W hb h d2 d3 hW
  obtain ⟨SG, hSG⟩ : ∃ SG : ByteArray, (⟨(signL p b c (sbB x)).toArray⟩ : ByteArray) = SG := ⟨_, rfl⟩
  obtain ⟨D, hD⟩ : ∃ D : ByteArray, (⟨(ptD (mag x) pr a c).toArray⟩ : ByteArray) = D := ⟨_, rfl⟩
  have hSl : SG.data.toList = signL p b c (sbB x) := by rw [← hSG]
  have hDl : D.data.toList = ptD (mag x) pr a c := by rw [← hD]
  have s1 : SG.size ≤ 10 := by rw [← ba_len, hSl]; exact Nat.le_trans (sgn_len _ _ _ _) (by omega)
  have s3 : D.size ≤ 20000 := by rw [← ba_len, hDl]; exact Nat.le_trans (len_ptD w h d2 d3 a c) (by omega)
  have hAs : AscL D.data.toList := by rw [hDl]; exact asc_ptD w h d2 d3 a c
  rw [hSG, hD] at cP
  obtain ⟨X, hX⟩ : ∃ X : ByteArray, (⟨(pointT m p b a z wd pr c x).toArray⟩ : ByteArray) = X := ⟨_, rfl⟩
  have cQ := fun W => padded_core m p b a z wd pr c z SG ⟨#[]⟩ D ⟨#[]⟩ ⟨(capL c (ptD (mag x) pr a c)).toArray⟩ X W (by omega) (by omega) s1 (by decide) s3 asc_nil hAs (by
    unfold capL
    split
    · exact ⟨rfl, by rw [hDl]⟩
    · exact ⟨rfl, hD⟩) (by rw [← hX, hSl]; rfl)
  unfold PadEnd at cQ
  rw [hX]
  have CK := Lib.hid cK
  have CA := Lib.hid cA
  have CW := Lib.hid cW
  have CO := Lib.hid cO
  have CP := Lib.hid cP
  have CQ := Lib.hid cQ
  have HT := Lib.hid (Lib.tabBelow_of_tabIs hT)
  have FP := Lib.hid (Five.new w #[.bool m, .bool p, .bool b, .bool a, .bool z, .int .i64 wd, .int .i64 pr, .int .u8 (c : Int)] 35)
  have HB0 := Lib.hid ((Below.refl w.heap.size w).alloc (Nat.le_refl _) (.cells #[.bool m, .bool p, .bool b, .bool a, .bool z, .int .i64 wd, .int .i64 pr, .int .u8 (c : Int)] 35))
  obtain ⟨W1, hW1⟩ : ∃ W1, w.alloc (.cells #[.bool m, .bool p, .bool b, .bool a, .bool z, .int .i64 wd, .int .i64 pr, .int .u8 (c : Int)] 35) = W1 := ⟨_, rfl⟩
  rw [hW1] at FP HB0
  have HW1 := Lib.hid hW1
  clear cK cA cW cO cP cQ hT hW1 hX hSG hD hSl hDl s1 s3 hAs hk hv hw h hb d0 d1 d2 d3
  have hle : w.heap.size ≤ W1.heap.size := HB0.out.size
  obtain ⟨B, hB⟩ : ∃ B, w.heap.size = B := ⟨_, rfl⟩
  rw [hB] at FP HB0 HT hle ⊢
  obtain ⟨p0, p1, p2, p3, p4, p5, p6, p7⟩ := spec_cells FP.out
  have HB := Lib.hid hB
  clear hB
  go_enter Tryz.func25, Tryz.ntmps25
  go_wp2_with fail
  rw [HW1.out, HB.out]
  refine (CK.out _).mono ?_
  rintro e W2 ⟨rfl, h2⟩
  clear p0 p1 p2 p3 p4 p5 p6 p7
  obtain ⟨p0, p1, p2, p3, p4, p5, p6, p7⟩ := spec_cells (FP.out.below h2)
  have FP2 := Lib.hid (FP.out.below h2)
  have HB2 := Lib.hid (HB0.out.trans (h2.mono hle))
  have hle2 : B ≤ W2.heap.size := Nat.le_trans hle h2.size
  clear h2
  go_wp2_with fail
  refine (CA.out _).mono ?_
  rintro e w' ⟨rfl, rfl⟩
  go_wp2_with fail
  refine (CO.out _).mono ?_
  rintro e w' ⟨rfl, rfl⟩
  go_wp2_with fail
  refine (CW.out _).mono ?_
  rintro e w' ⟨rfl, rfl⟩
  go_wp2_with fail
  have HCW := Lib.hid (fun (W : World) (h : Below W2.heap.size W2 W) => spec_cells (FP2.out.below h))
  have HTW := Lib.hid (fun (W : World) (h : Below W2.heap.size W2 W) => HT.out W (HB2.out.trans (h.mono hle2)))
  have hR := Below.refl W2.heap.size W2
  go_region_held3 (fun w' => w'.cell? ⟨B, 0, none⟩ = some (.bool m) ∧ w'.cell? ⟨B, 1, none⟩ = some (.bool p) ∧ w'.cell? ⟨B, 2, none⟩ = some (.bool b) ∧ w'.cell? ⟨B, 3, none⟩ = some (.bool a) ∧ w'.cell? ⟨B, 4, none⟩ = some (.bool z) ∧ w'.cell? ⟨B, 5, none⟩ = some (.int .i64 wd) ∧ w'.cell? ⟨B, 6, none⟩ = some (.int .i64 pr) ∧ w'.cell? ⟨B, 7, none⟩ = some (.int .u8 (c : Int)))
      (first | (with_reducible exact S2) | (with_reducible exact S1) | go_keep)
      (first
      | (go_at_call 78; (with_reducible refine (CP.out _ (HTW.out _ (by first | exact hR | exact below_drewN hR _ | exact hR.drew))).mono ?_); rintro e W3 ⟨rfl, h3⟩; have b3 : Below W2.heap.size W2 W3 := ⟨h3.os, h3.tape, h3.output, h3.size, h3.block⟩; have S1 := HCW.out _ b3; clear h3)
      | (go_at_call 77; (with_reducible refine (CQ.out _).mono ?_); rintro e W4 ⟨rfl, h4⟩; have b4 : Below W2.heap.size W2 W4 := b3.trans ((⟨h4.os, h4.tape, h4.output, h4.size, h4.block⟩ : Below W3.heap.size W3 W4).mono b3.size); have S2 := HCW.out _ b4; clear h4))
  all_goals
    have hBf := HB2.out.trans (b4.mono hle2)
    go_wp2_with fail
    go_ret2
    exact ⟨rfl, by first | exact hBf | exact ⟨hBf.os, hBf.tape, hBf.output, hBf.size, hBf.block⟩⟩
end Go.Proofs.YtbbbdcohkfijoaaGreatDoor

namespace Go.Proofs.YtbbbdcohkfijoaaGreatDoor
open Go.RowKit Go.Lib

def hexC (d : Nat) : Nat := if d < 10 then 48 + d else 87 + d
theorem hexC_lt {d : Nat} (h : d < 16) : hexC d < 128 := by unfold hexC; split <;> omega
/-- How many digits, each of z bits; how far each is shifted down; the digits. -/
def ibN (P : Nat) (E : Int) (z : Nat) : Nat := (max 1 (Int.tdiv ((Lib.bitLen P : Int) + E + (z : Int) - 1) (z : Int))).toNat
def ibS (E : Int) (z N i : Nat) : Int := ((N : Int) - 1 - (i : Int)) * (z : Int) - E
def ibD (P : Nat) (E : Int) (z N i : Nat) : Nat := P / 2 ^ (ibS E z N i).toNat * 2 ^ (-(ibS E z N i)).toNat % 2 ^ z
def ibL (P : Nat) (E : Int) (z : Nat) : List Nat := (List.range (ibN P E z)).map fun i => hexC (ibD P E z (ibN P E z) i)
def ibT (P : Nat) (E : Int) (z : Nat) : List UInt8 := (ibL P E z).map fun x => x.toUInt8
theorem ibL_len (P : Nat) (E : Int) (z : Nat) : (ibL P E z).length = ibN P E z := by unfold ibL; rw [List.length_map, List.length_range]
theorem ibT_len (P : Nat) (E : Int) (z : Nat) : (ibT P E z).length = ibN P E z := by unfold ibT; rw [List.length_map, ibL_len]
theorem ibD_lt (P : Nat) (E : Int) (z N i : Nat) (hz : z ≤ 4) : ibD P E z N i < 16 := by
  unfold ibD
  have h1 := Nat.mod_lt (P / 2 ^ (ibS E z N i).toNat * 2 ^ (-(ibS E z N i)).toNat) (Nat.pow_pos (n := z) (show 0 < 2 by omega))
  have h2 : 2 ^ z ≤ 2 ^ 4 := Nat.pow_le_pow_right (by omega) hz
  omega
theorem asc_ibT (P : Nat) (E : Int) (z : Nat) (hz : z ≤ 4) : AscL (ibT P E z) := by
  intro c hc
  unfold ibT ibL at hc
  rw [List.map_map] at hc
  obtain ⟨i, _, rfl⟩ := List.mem_map.1 hc
  have h := hexC_lt (ibD_lt P E z (ibN P E z) i hz)
  show (hexC _).toUInt8.toNat < 128
  simp only [Nat.toUInt8, UInt8.toNat_ofNat']
  omega
theorem bitLen_pos {n : Nat} (h : 0 < n) (hb : n < 2 ^ 64) : 1 ≤ Lib.bitLen n ∧ Lib.bitLen n ≤ 64 ∧ 2 ^ (Lib.bitLen n - 1) ≤ n ∧ n < 2 ^ Lib.bitLen n := by
  have := bitLenAux_bounds 64 n hb (by omega)
  exact this
/-- Bounds of the count. -/
theorem ibN_bd {P : Nat} {E : Int} {z : Nat} (hP : P < 9007199254740992) (hE : E ≤ 971) (hz : z = 3 ∨ z = 4) : 1 ≤ ibN P E z ∧ ibN P E z ≤ 1100 := by
  have hl : Lib.bitLen P ≤ 53 := by
    rcases Nat.eq_zero_or_pos P with rfl | h
    · decide
    · obtain ⟨a, _, c, _⟩ := bitLen_pos h (by omega)
      have : Lib.bitLen P - 1 < 53 := (Nat.pow_lt_pow_iff_right (by omega : 1 < 2)).1 (Nat.lt_of_le_of_lt c hP)
      omega
  have tn : ∀ (x z : Int), x ≤ 1100 → 0 < z → Int.tdiv x z ≤ 1100 := fun x z hx hz => by
    rcases Int.lt_or_le x 0 with q | q
    · have e : x = -(-x) := by omega
      have h0 : 0 ≤ (-x) / z := Int.ediv_nonneg (by omega) (by omega)
      rw [e, Int.neg_tdiv, Int.tdiv_eq_ediv_of_nonneg (by omega)]
      omega
    · rw [Int.tdiv_eq_ediv_of_nonneg q]
      exact Int.le_trans (Int.ediv_le_self _ q) hx
  unfold ibN
  have := tn ((Lib.bitLen P : Int) + E + (z : Int) - 1) (z : Int) (by rcases hz with rfl | rfl <;> omega) (by rcases hz with rfl | rfl <;> decide)
  omega
end Go.Proofs.YtbbbdcohkfijoaaGreatDoor

namespace Go.Proofs.YtbbbdcohkfijoaaGreatDoor
open Go.RowKit Go.Lib

/-- How many bytes from a place on are of a kind. -/
def runP (p : Nat → Bool) (S : ByteArray) (k : Nat) : Nat → Nat
  | 0 => 0
  | f + 1 => if p (atB S k) = true then 1 + runP p S (k + 1) f else 0
theorem runP_at {p : Nat → Bool} {S : ByteArray} {k n f : Nat} (hn : n ≤ f) (h : ∀ i, i < n → p (atB S (k + i)) = true) (hs : p (atB S (k + n)) = false ∨ n = f) : runP p S k f = n := by
  induction f generalizing k n with
  | zero => rw [runP]; omega
  | succ f ih =>
    rw [runP]
    rcases Nat.eq_zero_or_pos n with rfl | h0
    · rcases hs with hs | hs
      · rw [Nat.add_zero] at hs
        rw [if_neg (by rw [hs]; decide)]
      · omega
    · obtain ⟨m, rfl⟩ : ∃ m, n = m + 1 := ⟨n - 1, by omega⟩
      have h1 := h 0 (by omega)
      rw [Nat.add_zero] at h1
      rw [if_pos h1, ih (n := m) (by omega) (fun i hi => by have := h (i + 1) (by omega); rwa [show k + (i + 1) = k + 1 + i by omega] at this) (by rcases hs with hs | hs
                                                                                                                                                   · left; rwa [show k + (m + 1) = k + 1 + m by omega] at hs
                                                                                                                                                   · right; omega)]
      omega
def isFl (c : Nat) : Bool := c == 45 || c == 43 || c == 32 || c == 35 || c == 48
def isDg (c : Nat) : Bool := decide (48 ≤ c) && decide (c ≤ 57)
/-- Where the flags end. -/
def flE (S : ByteArray) (k : Nat) : Nat := k + runP isFl S k (S.size - k)
/-- Does a byte stand among the n ones from k on? -/
def hasN (S : ByteArray) (k c : Nat) : Nat → Bool
  | 0 => false
  | n + 1 => hasN S k c n || atB S (k + n) == c
def flV (S : ByteArray) (k n : Nat) : Array Value := #[.bool (hasN S k 45 n), .bool (hasN S k 43 n), .bool (hasN S k 32 n), .bool (hasN S k 35 n), .bool (hasN S k 48 n), .int .i64 0, .int .i64 0, .int .u8 0, .bool false, .bool false, .int .i64 0]
def atOf (w : World) (g : Nat) : Nat := match w.cell? ⟨g, 1, none⟩ with
  | some (.int _ z) => z.toNat
  | _ => 0
theorem atOf_rdr {w : World} {g k : Nat} {S : ByteArray} (h : Rdr w g S k) : atOf w g = k := by
  unfold atOf
  rw [h.cell 1]
  rfl
theorem isFl_cases {c : Nat} : isFl c = true ↔ c = 45 ∨ c = 43 ∨ c = 32 ∨ c = 35 ∨ c = 48 := by
  unfold isFl
  simp [or_assoc]
theorem hasN_step {S : ByteArray} {k n x : Nat} (h : atB S (k + n) = x) (c : Nat) : hasN S k c (n + 1) = (hasN S k c n || x == c) := by
  rw [hasN, h]
theorem atB_size {S : ByteArray} {k : Nat} (h : 0 < atB S k) : k < S.size := by
  rcases Nat.lt_or_ge k S.size with h2 | h2
  · exact h2
  · rw [atB_out (by omega)] at h; omega
theorem run_end {p : Nat → Bool} (_h0 : p 0 = false) {S : ByteArray} {k n : Nat} (hk : k + n ≤ S.size) (h : ∀ i, i < n → p (atB S (k + i)) = true) (hs : p (atB S (k + n)) = false) : runP p S k (S.size - k) = n :=
  runP_at (by omega) h (Or.inl hs)
theorem flV_step {S : ByteArray} {k n x : Nat} (h : atB S (k + n) = x) : flV S k (n + 1) = #[.bool (hasN S k 45 n || x == 45), .bool (hasN S k 43 n || x == 43), .bool (hasN S k 32 n || x == 32), .bool (hasN S k 35 n || x == 35), .bool (hasN S k 48 n || x == 48), .int .i64 0, .int .i64 0, .int .u8 0, .bool false, .bool false, .int .i64 0] := by
  unfold flV
  rw [hasN_step h, hasN_step h, hasN_step h, hasN_step h, hasN_step h]
set_option maxRecDepth 100000 in
set_option maxHeartbeats 8000000 in
theorem flags_any (S : ByteArray) (k g h : Nat) (w : World) (hk : k ≤ S.size) (hS : S.size ≤ 4611686018427387904) (hR : Rdr w g S k) (hP : Five w h (flV S k 0) 102) (hne : g ≠ h) :
    Calls Tryz.prog 178 #[.pointer (some ⟨g, 0, none⟩), .pointer (some ⟨h, 0, none⟩)] w fun e w' => e = .returned (.tuple #[]) ∧ Rdr w' g S (flE S k) ∧ Five w' h (flV S k (flE S k - k)) 102 ∧ Out [g, h] w w' := by
  have CP := Lib.hid (fun (j : Nat) (W : World) (hj : j ≤ S.size) (H : Rdr W g S j) => peek_any S j g W hj hS H)
  have ne1 : ¬ g = h := hne
  have ne2 : ¬ h = g := fun e => hne e.symm
  clear hne
  go_enter Tryz.func178, Tryz.ntmps178
  go_wp2_with fail
  go_loopw [] (fun wr => ∃ n : Nat, k + n ≤ S.size ∧ Rdr wr g S (k + n) ∧ Five wr h (flV S k n) 102 ∧ Out [g, h] w wr ∧ ∀ i, i < n → isFl (atB S (k + i)) = true) (fun wr => S.size - atOf wr g)
  case atStart => exact ⟨0, hk, hR, hP, Out.refl _ _, fun i hi => absurd hi (Nat.not_lt_zero i)⟩
  case round =>
    obtain ⟨n, hn, hRr, hPr, hO, hall⟩ := hrel
    have CQ := Lib.hid (CP.out _ _ hn hRr)
    have HRr := Lib.hid hRr
    have HPr := Lib.hid hPr
    have HO := Lib.hid hO
    have HALL := Lib.hid hall
    obtain ⟨x, hx⟩ : ∃ x, atB S (k + n) = x := ⟨_, rfl⟩
    rw [hx] at CQ
    have HX := Lib.hid hx
    have HS := Lib.hid (flV_step hx)
    have HM := Lib.hid (atOf_rdr hRr)
    clear hR hP hRr hPr hO hall hx
    by_cases hfl : isFl x = true
    · have hlt : k + n < S.size := atB_size (by rw [HX.out]; rcases isFl_cases.1 hfl with h | h | h | h | h <;> omega)
      have hw : wrap64 (((k + n : Nat) : Int) + 1) = ((k + n + 1 : Nat) : Int) := by unfold wrap64; omega
      have hwI : wrap64 ((k : Int) + (n : Int) + 1) = ((k + n + 1 : Nat) : Int) := by unfold wrap64; omega
      have hall2 : ∀ i, i < n + 1 → isFl (atB S (k + i)) = true := fun i hi => by
        rcases Nat.lt_or_ge i n with h2 | h2
        · exact HALL.out i h2
        · obtain rfl : n = i := by omega
          rw [HX.out]; exact hfl
      have HALL2 := Lib.hid hall2
      have hcase := isFl_cases.1 hfl
      clear hall2 hfl
      rcases hcase with rfl | rfl | rfl | rfl | rfl
      · have e : flV S k (n + 1) = (flV S k n).setIfInBounds 0 (.bool true) := by rw [HS.out]; unfold flV; simp
        have HE := Lib.hid e
        clear e
        go_wp2_with fail
        refine CQ.out.mono ?_
        rintro e W1 ⟨rfl, q, rfl⟩
        have c0 := (HPr.out.drew q).cell 0
        have f0 := (HPr.out.drew q).fro 0
        have c1 := (HRr.out.drew q).cell 1
        have f1 := (HRr.out.drew q).fro 1
        go_wp2_with fail
        go_roundw
        case rel => exact ⟨n + 1, by omega, ((show Rdr _ g S (k + n) from (HRr.out.drew q).other (j := 0) (u := .bool true) ne1).step (k + n + 1)), by rw [HE.out]; exact ((HPr.out.drew q).set (j := 0) (u := .bool true)).other (j := 1) ne2, ((HO.out.drew q).set (p := ⟨h, 0, none⟩) (by simp) _).set (p := ⟨g, 1, none⟩) (by simp) _, HALL2.out⟩
        case measure =>
          rw [HM.out]
          have hm2 := atOf_rdr ((show Rdr _ g S (k + n) from (HRr.out.drew q).other (j := 0) (u := .bool true) ne1).step (k + n + 1))
          rw [show (k : Int) + (n : Int) + 1 = ((k + n + 1 : Nat) : Int) by omega, hm2]
          omega
      · have e : flV S k (n + 1) = (flV S k n).setIfInBounds 1 (.bool true) := by rw [HS.out]; unfold flV; simp
        have HE := Lib.hid e
        clear e
        go_wp2_with fail
        refine CQ.out.mono ?_
        rintro e W1 ⟨rfl, q, rfl⟩
        have c0 := (HPr.out.drew q).cell 1
        have f0 := (HPr.out.drew q).fro 1
        have c1 := (HRr.out.drew q).cell 1
        have f1 := (HRr.out.drew q).fro 1
        go_wp2_with fail
        go_roundw
        case rel => exact ⟨n + 1, by omega, ((show Rdr _ g S (k + n) from (HRr.out.drew q).other (j := 1) (u := .bool true) ne1).step (k + n + 1)), by rw [HE.out]; exact ((HPr.out.drew q).set (j := 1) (u := .bool true)).other (j := 1) ne2, ((HO.out.drew q).set (p := ⟨h, 1, none⟩) (by simp) _).set (p := ⟨g, 1, none⟩) (by simp) _, HALL2.out⟩
        case measure =>
          rw [HM.out]
          have hm2 := atOf_rdr ((show Rdr _ g S (k + n) from (HRr.out.drew q).other (j := 1) (u := .bool true) ne1).step (k + n + 1))
          rw [show (k : Int) + (n : Int) + 1 = ((k + n + 1 : Nat) : Int) by omega, hm2]
          omega
      · have e : flV S k (n + 1) = (flV S k n).setIfInBounds 2 (.bool true) := by rw [HS.out]; unfold flV; simp
        have HE := Lib.hid e
        clear e
        go_wp2_with fail
        refine CQ.out.mono ?_
        rintro e W1 ⟨rfl, q, rfl⟩
        have c0 := (HPr.out.drew q).cell 2
        have f0 := (HPr.out.drew q).fro 2
        have c1 := (HRr.out.drew q).cell 1
        have f1 := (HRr.out.drew q).fro 1
        go_wp2_with fail
        go_roundw
        case rel => exact ⟨n + 1, by omega, ((show Rdr _ g S (k + n) from (HRr.out.drew q).other (j := 2) (u := .bool true) ne1).step (k + n + 1)), by rw [HE.out]; exact ((HPr.out.drew q).set (j := 2) (u := .bool true)).other (j := 1) ne2, ((HO.out.drew q).set (p := ⟨h, 2, none⟩) (by simp) _).set (p := ⟨g, 1, none⟩) (by simp) _, HALL2.out⟩
        case measure =>
          rw [HM.out]
          have hm2 := atOf_rdr ((show Rdr _ g S (k + n) from (HRr.out.drew q).other (j := 2) (u := .bool true) ne1).step (k + n + 1))
          rw [show (k : Int) + (n : Int) + 1 = ((k + n + 1 : Nat) : Int) by omega, hm2]
          omega
      · have e : flV S k (n + 1) = (flV S k n).setIfInBounds 3 (.bool true) := by rw [HS.out]; unfold flV; simp
        have HE := Lib.hid e
        clear e
        go_wp2_with fail
        refine CQ.out.mono ?_
        rintro e W1 ⟨rfl, q, rfl⟩
        have c0 := (HPr.out.drew q).cell 3
        have f0 := (HPr.out.drew q).fro 3
        have c1 := (HRr.out.drew q).cell 1
        have f1 := (HRr.out.drew q).fro 1
        go_wp2_with fail
        go_roundw
        case rel => exact ⟨n + 1, by omega, ((show Rdr _ g S (k + n) from (HRr.out.drew q).other (j := 3) (u := .bool true) ne1).step (k + n + 1)), by rw [HE.out]; exact ((HPr.out.drew q).set (j := 3) (u := .bool true)).other (j := 1) ne2, ((HO.out.drew q).set (p := ⟨h, 3, none⟩) (by simp) _).set (p := ⟨g, 1, none⟩) (by simp) _, HALL2.out⟩
        case measure =>
          rw [HM.out]
          have hm2 := atOf_rdr ((show Rdr _ g S (k + n) from (HRr.out.drew q).other (j := 3) (u := .bool true) ne1).step (k + n + 1))
          rw [show (k : Int) + (n : Int) + 1 = ((k + n + 1 : Nat) : Int) by omega, hm2]
          omega
      · have e : flV S k (n + 1) = (flV S k n).setIfInBounds 4 (.bool true) := by rw [HS.out]; unfold flV; simp
        have HE := Lib.hid e
        clear e
        go_wp2_with fail
        refine CQ.out.mono ?_
        rintro e W1 ⟨rfl, q, rfl⟩
        have c0 := (HPr.out.drew q).cell 4
        have f0 := (HPr.out.drew q).fro 4
        have c1 := (HRr.out.drew q).cell 1
        have f1 := (HRr.out.drew q).fro 1
        go_wp2_with fail
        go_roundw
        case rel => exact ⟨n + 1, by omega, ((show Rdr _ g S (k + n) from (HRr.out.drew q).other (j := 4) (u := .bool true) ne1).step (k + n + 1)), by rw [HE.out]; exact ((HPr.out.drew q).set (j := 4) (u := .bool true)).other (j := 1) ne2, ((HO.out.drew q).set (p := ⟨h, 4, none⟩) (by simp) _).set (p := ⟨g, 1, none⟩) (by simp) _, HALL2.out⟩
        case measure =>
          rw [HM.out]
          have hm2 := atOf_rdr ((show Rdr _ g S (k + n) from (HRr.out.drew q).other (j := 4) (u := .bool true) ne1).step (k + n + 1))
          rw [show (k : Int) + (n : Int) + 1 = ((k + n + 1 : Nat) : Int) by omega, hm2]
          omega
    · have hfl2 : isFl x = false := by rw [Bool.not_eq_true] at hfl; exact hfl
      have hne : x ≠ 45 ∧ x ≠ 43 ∧ x ≠ 32 ∧ x ≠ 35 ∧ x ≠ 48 := by
        refine ⟨?_, ?_, ?_, ?_, ?_⟩ <;> (rintro rfl; exact hfl rfl)
      have b1 : ((x : Int) == 45) = false := by rw [beq_eq_false_iff_ne]; omega
      have b2 : ((x : Int) == 43) = false := by rw [beq_eq_false_iff_ne]; omega
      have b3 : ((x : Int) == 32) = false := by rw [beq_eq_false_iff_ne]; omega
      have b4 : ((x : Int) == 35) = false := by rw [beq_eq_false_iff_ne]; omega
      have b5 : ((x : Int) == 48) = false := by rw [beq_eq_false_iff_ne]; omega
      have HEND := Lib.hid (show flE S k = k + n by unfold flE; rw [run_end rfl hn HALL.out (by rw [HX.out]; exact hfl2)])
      clear hfl hfl2 hne
      go_wp2_with fail
      refine CQ.out.mono ?_
      rintro e W1 ⟨rfl, q, rfl⟩
      go_wp2_with fail
      refine bodyPost_ret (results_none rfl _ _ _) rfl ?_
      refine ⟨rfl, ?_, ?_, HO.out.drew q⟩
      · rw [HEND.out]; exact HRr.out.drew q
      · rw [HEND.out, Nat.add_sub_cancel_left]; exact HPr.out.drew q
end Go.Proofs.YtbbbdcohkfijoaaGreatDoor

namespace Go.Proofs.YtbbbdcohkfijoaaGreatDoor
open Go.RowKit Go.Lib

/-- The number that n digits from k on write. -/
def digV (S : ByteArray) (k : Nat) : Nat → Nat
  | 0 => 0
  | n + 1 => digV S k n * 10 + (atB S (k + n) - 48)
theorem digV_lt {S : ByteArray} {k n : Nat} (h : ∀ i, i < n → isDg (atB S (k + i)) = true) : digV S k n < 10 ^ n := by
  induction n with
  | zero => exact Nat.one_pos
  | succ n ih =>
    have h1 := ih (fun i hi => h i (by omega))
    have h2 := h n (by omega)
    unfold isDg at h2
    simp only [Bool.and_eq_true, decide_eq_true_eq] at h2
    rw [digV, Nat.pow_succ]
    omega
/-- How many digits a width or a precision takes here: at most five. -/
def dgN (S : ByteArray) (k : Nat) : Nat := min 5 (runP isDg S k (S.size - k))
/-- A width or a precision: the number, whether it is a star, where it ends. -/
def amt (S : ByteArray) (k : Nat) : Int × Bool × Nat := if atB S k = 42 then (0, true, k + 1) else ((digV S k (dgN S k) : Nat), false, k + dgN S k)
theorem run_le {p : Nat → Bool} {S : ByteArray} {k f n : Nat} (hn : n ≤ f) (h : ∀ i, i < n → p (atB S (k + i)) = true) : n ≤ runP p S k f := by
  induction f generalizing k n with
  | zero => omega
  | succ f ih =>
    rcases Nat.eq_zero_or_pos n with rfl | h0
    · omega
    · obtain ⟨m, rfl⟩ : ∃ m, n = m + 1 := ⟨n - 1, by omega⟩
      have h1 := h 0 (by omega)
      rw [Nat.add_zero] at h1
      rw [runP, if_pos h1]
      have := ih (k := k + 1) (n := m) (by omega) (fun i hi => by have := h (i + 1) (by omega); rwa [show k + (i + 1) = k + 1 + i by omega] at this)
      omega
theorem dgN_five {S : ByteArray} {k : Nat} (hk : k + 5 ≤ S.size) (h : ∀ i, i < 5 → isDg (atB S (k + i)) = true) : dgN S k = 5 := by
  have := run_le (p := isDg) (S := S) (k := k) (f := S.size - k) (n := 5) (by omega) h
  unfold dgN
  omega
theorem dgN_at {S : ByteArray} {k n : Nat} (hk : k + n ≤ S.size) (hn : n ≤ 5) (h : ∀ i, i < n → isDg (atB S (k + i)) = true) (hs : isDg (atB S (k + n)) = false) : dgN S k = n := by
  unfold dgN
  rw [run_end rfl hk h hs]
  omega
set_option maxRecDepth 100000 in
set_option maxHeartbeats 8000000 in
theorem amount_any (S : ByteArray) (k g : Nat) (w : World) (hk : k ≤ S.size) (hS : S.size ≤ 4611686018427387904) (hR : Rdr w g S k) :
    Calls Tryz.prog 179 #[.pointer (some ⟨g, 0, none⟩)] w fun e w' => e = .returned (.tuple #[.int .i64 (amt S k).1, .bool (amt S k).2.1]) ∧ Rdr w' g S (amt S k).2.2 ∧ Out [g] w w' := by
  have CT := Lib.hid (take_any S k g 42 w hk hS (by decide) hR)
  have CP := Lib.hid (fun (j : Nat) (W : World) (hj : j ≤ S.size) (H : Rdr W g S j) => peek_any S j g W hj hS H)
  obtain ⟨x, hx⟩ : ∃ x, atB S k = x := ⟨_, rfl⟩
  unfold amt
  rw [hx] at CT ⊢
  have HX := Lib.hid hx
  clear hx
  by_cases hs : x = 42
  · subst hs
    have CT := CT.out
    rw [if_pos rfl, decide_eq_true rfl] at CT
    rw [if_pos rfl]
    have CT := Lib.hid CT
    go_enter Tryz.func179, Tryz.ntmps179
    go_wp2_with fail
    refine CT.out.mono ?_
    rintro e w1 ⟨rfl, h1, h2⟩
    have H1 := Lib.hid h1
    clear h1
    go_wp2_with fail
    go_ret2
    exact ⟨rfl, H1.out, h2⟩
  · have CT := CT.out
    rw [if_neg hs, decide_eq_false hs] at CT
    rw [if_neg hs]
    have CT := Lib.hid CT
    clear hs
    go_enter Tryz.func179, Tryz.ntmps179
    go_wp2_with fail
    refine CT.out.mono ?_
    rintro e w1 ⟨rfl, h1, h2⟩
    have H1 := Lib.hid h1
    have HO1 := Lib.hid h2
    clear h1 h2
    go_wp2_with fail
    go_loopw [4, 8] (fun nv cv wr => ∃ i : Nat, i ≤ 5 ∧ nv = .int .i64 (digV S k i : Nat) ∧ cv = .int .i64 (i : Int) ∧ k + i ≤ S.size ∧ Rdr wr g S (k + i) ∧ Out [g] w wr ∧ ∀ j, j < i → isDg (atB S (k + j)) = true) (fun _ cv _ => 5 - (RowKit.intOf cv).toNat)
    case atStart => exact ⟨0, by omega, rfl, rfl, hk, H1.out, HO1.out, fun j hj => absurd hj (Nat.not_lt_zero j)⟩
    case round =>
      obtain ⟨i, hi, rfl, rfl, hn, hRr, hO, hall⟩ := hrel
      obtain ⟨v, hv⟩ : ∃ v, digV S k i = v := ⟨_, rfl⟩
      have hv2 : v < 100000 := by
        have h1 := digV_lt hall
        have h2 : 10 ^ i ≤ 10 ^ 5 := Nat.pow_le_pow_right (by omega) hi
        omega
      rw [hv]
      have HV := Lib.hid hv
      have HALL := Lib.hid hall
      have HRr := Lib.hid hRr
      have HO := Lib.hid hO
      have CQ := Lib.hid (CP.out _ _ hn hRr)
      obtain ⟨x, hx⟩ : ∃ x, atB S (k + i) = x := ⟨_, rfl⟩
      rw [hx] at CQ
      have HX2 := Lib.hid hx
      clear hv hall hRr hO hx CP CT H1 HO1
      have g0 : (0 : Int) ≤ (v : Int) := by omega
      have g1 : (v : Int) ≤ 100000 := by omega
      by_cases hlt : i < 5
      · by_cases hd : isDg x = true
        · have hxb : 48 ≤ x ∧ x ≤ 57 := by unfold isDg at hd; simp only [Bool.and_eq_true, decide_eq_true_eq] at hd; exact hd
          have g2 : (48 : Int) ≤ (x : Int) := by omega
          have g3 : (x : Int) ≤ 57 := by omega
          have hlt2 : k + i < S.size := atB_size (by rw [HX2.out]; omega)
          have hw : wrap64 (((k + i : Nat) : Int) + 1) = ((k + i + 1 : Nat) : Int) := by unfold wrap64; omega
          have hwI : wrap64 ((k : Int) + (i : Int) + 1) = ((k + i + 1 : Nat) : Int) := by unfold wrap64; omega
          have HD := Lib.hid hd
          clear hd hxb
          go_wp2_with fail
          refine CQ.out.mono ?_
          rintro e W1 ⟨rfl, q, rfl⟩
          have c1 := (HRr.out.drew q).cell 1
          have f1 := (HRr.out.drew q).fro 1
          go_wp2_with fail
          go_roundw
          case rel => exact ⟨i + 1, by omega, by rw [digV, HV.out, HX2.out]; congr 1; omega, by go_num, by omega, (show Rdr _ g S (k + i) from HRr.out.drew q).step (k + i + 1), (HO.out.drew q).set (p := ⟨g, 1, none⟩) (by simp) _, fun j hj => by
            rcases Nat.lt_or_ge j i with h2 | h2
            · exact HALL.out j h2
            · obtain rfl : i = j := by omega
              rw [HX2.out]; exact HD.out⟩
          case measure => simp [RowKit.intOf]; omega
        · have hd2 : isDg x = false := by rw [Bool.not_eq_true] at hd; exact hd
          have HE := Lib.hid (dgN_at hn hi HALL.out (by rw [HX2.out]; exact hd2))
          have hcase : x < 48 ∨ (48 ≤ x ∧ 57 < x) := by
            unfold isDg at hd
            simp only [Bool.and_eq_true, decide_eq_true_eq] at hd
            omega
          clear hd hd2
          rcases hcase with h1 | ⟨h1, h2⟩
          all_goals
            go_wp2_with fail
            refine CQ.out.mono ?_
            rintro e W1 ⟨rfl, q, rfl⟩
            go_wp2_with fail
            go_ret2
            exact ⟨by rw [HE.out, HV.out]; rfl, by rw [HE.out]; exact HRr.out.drew q, HO.out.drew q⟩
      · obtain rfl : 5 = i := by omega
        have HE := Lib.hid (dgN_five hn HALL.out)
        go_wp2_with fail
        go_ret2
        exact ⟨by rw [HE.out, HV.out]; rfl, by rw [HE.out]; exact HRr.out, HO.out⟩
end Go.Proofs.YtbbbdcohkfijoaaGreatDoor
