/- Several texts in one (Contracts of layer 5's Text where it is refused, and of the definition's Check and Text; the walk of the law FormatTexts; Contracts of the definition of layer 5: Text; the walk of the law FormatTexts; The walk of the law FormatTexts; A struct of eight one-cell fields by value, read and written (for api.Spec). No walk here). -/
import Derived.Lib.SmallJoins
import Derived.Test.YtmceakbjholjpaaGreatDoorQft8
namespace Go.Proofs.YtmceakbjholjpaaGreatDoor
open Go.RowKit Go.Lib

theorem verb_zero : vAll.contains (0 : Nat).toUInt8 = false := by decide
set_option maxRecDepth 100000 in
set_option maxHeartbeats 4000000 in
theorem rcheck_any (m p b a z : Bool) (wd pr : Int) (c : Nat) (w : World) (hc : c < 256) : Calls Tryz.prog 51 #[.agg #[.bool m, .bool p, .bool b, .bool a, .bool z, .int .i64 wd, .int .i64 pr, .int .u8 (c : Int)]] w fun e w' => e = .returned (.int .i64 (if chkB wd pr c then 0 else 50)) ∧ Below w.heap.size w w' := by
  have cI := fun W => rin_any ⟨#[100, 105, 111, 120, 88, 117, 101, 69, 102, 70, 103, 71, 99, 115, 37]⟩ c W hc (by decide)
  replace cI : ∀ w : World, Calls Tryz.prog 43 #[.int .u8 (c : Int), .string ⟨#[100, 105, 111, 120, 88, 117, 101, 69, 102, 70, 103, 71, 99, 115, 37]⟩] w fun e w' => e = .returned (.bool (vAll.contains c.toUInt8)) ∧ w = w' := cI
  have hz := verb_zero
  unfold chkB
  obtain ⟨v, hv⟩ : ∃ v, vAll.contains c.toUInt8 = v := ⟨_, rfl⟩
  have hcv : c = 0 → v = false := fun e => by rw [← hv, e]; exact hz
  rw [hv] at cI ⊢
  obtain ⟨r, hr⟩ : ∃ r : Int, (if (decide (0 ≤ wd) && decide (wd ≤ 1024) && (decide (-1 ≤ pr) && decide (pr ≤ 190)) && v) = true then (0 : Int) else 50) = r := ⟨_, rfl⟩
  rw [hr]
  have hcase : (((c : Int) == 0) = true ∧ r = 50) ∨ (((c : Int) == 0) = false ∧ v = false ∧ r = 50) ∨ (((c : Int) == 0) = false ∧ v = true ∧ wd < 0 ∧ r = 50) ∨ (((c : Int) == 0) = false ∧ v = true ∧ 0 ≤ wd ∧ 1024 < wd ∧ r = 50) ∨ (((c : Int) == 0) = false ∧ v = true ∧ 0 ≤ wd ∧ wd ≤ 1024 ∧ pr < -1 ∧ r = 50) ∨ (((c : Int) == 0) = false ∧ v = true ∧ 0 ≤ wd ∧ wd ≤ 1024 ∧ -1 ≤ pr ∧ 190 < pr ∧ r = 50) ∨ (((c : Int) == 0) = false ∧ v = true ∧ 0 ≤ wd ∧ wd ≤ 1024 ∧ -1 ≤ pr ∧ pr ≤ 190 ∧ r = 0) := by
    by_cases h0 : c = 0
    · left
      refine ⟨by rw [beq_iff_eq]; omega, ?_⟩
      rw [← hr, hcv h0, Bool.and_false, if_neg (by decide)]
    · right
      have e0 : ((c : Int) == 0) = false := by rw [beq_eq_false_iff_ne]; omega
      cases v with
      | false =>
        left
        refine ⟨e0, rfl, ?_⟩
        rw [← hr, Bool.and_false, if_neg (by decide)]
      | true =>
        right
        by_cases h1 : wd < 0
        · exact Or.inl ⟨e0, rfl, h1, by rw [← hr, decide_eq_false (by omega : ¬ 0 ≤ wd)]; rfl⟩
        · right
          by_cases h2 : 1024 < wd
          · exact Or.inl ⟨e0, rfl, by omega, h2, by rw [← hr, decide_eq_false (by omega : ¬ wd ≤ 1024), Bool.and_false]; rfl⟩
          · right
            by_cases h3 : pr < -1
            · exact Or.inl ⟨e0, rfl, by omega, by omega, h3, by rw [← hr, decide_eq_false (by omega : ¬ -1 ≤ pr), Bool.false_and, Bool.and_false]; rfl⟩
            · right
              by_cases h4 : 190 < pr
              · exact Or.inl ⟨e0, rfl, by omega, by omega, by omega, h4, by rw [← hr, decide_eq_false (by omega : ¬ pr ≤ 190), Bool.and_false, Bool.and_false]; rfl⟩
              · exact Or.inr ⟨e0, rfl, by omega, by omega, by omega, by omega, by rw [← hr, decide_eq_true (by omega : 0 ≤ wd), decide_eq_true (by omega : wd ≤ 1024), decide_eq_true (by omega : -1 ≤ pr), decide_eq_true (by omega : pr ≤ 190)]; rfl⟩
  have CI := Lib.hid cI
  have HB0 := Lib.hid ((Below.refl w.heap.size w).alloc (Nat.le_refl _) (.cells #[.bool m, .bool p, .bool b, .bool a, .bool z, .int .i64 wd, .int .i64 pr, .int .u8 (c : Int)] 24))
  have FP := Lib.hid (Five.new w #[.bool m, .bool p, .bool b, .bool a, .bool z, .int .i64 wd, .int .i64 pr, .int .u8 (c : Int)] 24)
  obtain ⟨p0, p1, p2, p3, p4, p5, p6, p7⟩ := spec_cells FP.out
  clear cI hr hv hcv hz
  rcases hcase with ⟨t0, rfl⟩ | ⟨t0, rfl, rfl⟩ | ⟨t0, rfl, t1, rfl⟩ | ⟨t0, rfl, t1, t2, rfl⟩ | ⟨t0, rfl, t1, t2, t3, rfl⟩ | ⟨t0, rfl, t1, t2, t3, t4, rfl⟩ | ⟨t0, rfl, t1, t2, t3, t4, rfl⟩
  · go_enter Tryz.func51, Tryz.ntmps51
    go_wp2_with fail
    go_ret
    exact ⟨rfl, HB0.out⟩
  all_goals
    go_enter Tryz.func51, Tryz.ntmps51
    go_wp2_with fail
    refine (CI.out _).mono ?_
    rintro e w' ⟨rfl, rfl⟩
    go_wp2_with fail
    go_ret
    exact ⟨rfl, HB0.out⟩
set_option maxRecDepth 100000 in
set_option maxHeartbeats 4000000 in
theorem ftext_no (m p b a z by' : Bool) (wd pr : Int) (c : Nat) (s : ByteArray) (w : World) (h : chkB wd pr c = false ∨ (chkB wd pr c = true ∧ vText.contains c.toUInt8 = false)) :
    Calls Tryz.prog 16 #[.agg #[.bool m, .bool p, .bool b, .bool a, .bool z, .int .i64 wd, .int .i64 pr, .int .u8 (c : Int)], .string s, .bool by'] w fun e w' => e = .returned (.tuple #[.string ⟨#[]⟩, .int .i64 50]) ∧ Below w.heap.size w w' := by
  have cK := fun W => check_any m p b a z wd pr c W
  have cA := fun W => among_any ⟨#[99, 115]⟩ c W
  replace cA : ∀ w : World, Calls Tryz.prog 46 #[.string ⟨#[99, 115]⟩, .int .u8 (c : Int)] w fun e w' => e = .returned (.bool (vText.contains c.toUInt8)) ∧ w = w' := cA
  have FP := Lib.hid (Five.new w #[.bool m, .bool p, .bool b, .bool a, .bool z, .int .i64 wd, .int .i64 pr, .int .u8 (c : Int)] 24)
  have HB0 := Lib.hid ((Below.refl w.heap.size w).alloc (Nat.le_refl _) (.cells #[.bool m, .bool p, .bool b, .bool a, .bool z, .int .i64 wd, .int .i64 pr, .int .u8 (c : Int)] 24))
  obtain ⟨p0, p1, p2, p3, p4, p5, p6, p7⟩ := spec_cells FP.out
  rcases h with h | ⟨h, hv⟩
  · rw [h, if_neg (by decide)] at cK
    have CK := Lib.hid cK
    clear cK cA h
    go_enter Tryz.func16, Tryz.ntmps16
    go_wp2_with fail
    refine (CK.out _).mono ?_
    rintro e W2 ⟨rfl, h2⟩
    have hBf := HB0.out.trans (h2.mono HB0.out.size)
    clear h2
    go_wp2_with fail
    go_ret2
    exact ⟨rfl, hBf⟩
  · rw [h, if_pos rfl] at cK
    rw [hv] at cA
    have CK := Lib.hid cK
    have CA := Lib.hid cA
    clear cK cA h hv
    go_enter Tryz.func16, Tryz.ntmps16
    go_wp2_with fail
    refine (CK.out _).mono ?_
    rintro e W2 ⟨rfl, h2⟩
    have hBf := HB0.out.trans (h2.mono HB0.out.size)
    clear p0 p1 p2 p3 p4 p5 p6 p7
    obtain ⟨p0, p1, p2, p3, p4, p5, p6, p7⟩ := spec_cells (FP.out.below h2)
    clear h2
    go_wp2_with fail
    refine (CA.out _).mono ?_
    rintro e w' ⟨rfl, rfl⟩
    go_wp2_with fail
    go_ret2
    exact ⟨rfl, hBf⟩
end Go.Proofs.YtmceakbjholjpaaGreatDoor

namespace Go.Proofs.YtmceakbjholjpaaGreatDoor
open Go.RowKit Go.Lib

theorem text_verb {c : Nat} (h : c < 256) (hv : vText.contains c.toUInt8 = false) : c ≠ 99 ∧ c ≠ 115 := by
  have key : ∀ n : Fin 256, vText.contains (UInt8.ofNat n.val) = false → n.val ≠ 99 ∧ n.val ≠ 115 := by decide +kernel
  exact key ⟨c, h⟩ hv
set_option maxRecDepth 100000 in
set_option maxHeartbeats 4000000 in
theorem rtext_no (m p b a z by' : Bool) (wd pr : Int) (c : Nat) (s : ByteArray) (w : World) (hc : c < 256) (h : chkB wd pr c = false ∨ (chkB wd pr c = true ∧ vText.contains c.toUInt8 = false)) :
    Calls Tryz.prog 17 #[.agg #[.bool m, .bool p, .bool b, .bool a, .bool z, .int .i64 wd, .int .i64 pr, .int .u8 (c : Int)], .string s, .bool by'] w fun e w' => e = .returned (.tuple #[.string ⟨#[]⟩, .int .i64 50]) ∧ Below w.heap.size w w' := by
  have cK := fun W => rcheck_any m p b a z wd pr c W hc
  have FP := Lib.hid (Five.new w #[.bool m, .bool p, .bool b, .bool a, .bool z, .int .i64 wd, .int .i64 pr, .int .u8 (c : Int)] 24)
  have HB0 := Lib.hid ((Below.refl w.heap.size w).alloc (Nat.le_refl _) (.cells #[.bool m, .bool p, .bool b, .bool a, .bool z, .int .i64 wd, .int .i64 pr, .int .u8 (c : Int)] 24))
  obtain ⟨p0, p1, p2, p3, p4, p5, p6, p7⟩ := spec_cells FP.out
  rcases h with h | ⟨h, hv⟩
  · rw [h, if_neg (by decide)] at cK
    have CK := Lib.hid cK
    clear cK h
    go_enter Tryz.func17, Tryz.ntmps17
    go_wp2_with fail
    refine (CK.out _).mono ?_
    rintro e W2 ⟨rfl, h2⟩
    have hBf := HB0.out.trans (h2.mono HB0.out.size)
    clear h2
    go_wp2_with fail
    go_ret2
    exact ⟨rfl, hBf⟩
  · rw [h, if_pos rfl] at cK
    obtain ⟨v1, v2⟩ := text_verb hc hv
    have t1 : ((c : Int) != 115) = true := by rw [bne_iff_ne]; omega
    have t2 : ((c : Int) != 99) = true := by rw [bne_iff_ne]; omega
    have CK := Lib.hid cK
    clear cK h hv v1 v2
    go_enter Tryz.func17, Tryz.ntmps17
    go_wp2_with fail
    refine (CK.out _).mono ?_
    rintro e W2 ⟨rfl, h2⟩
    have hBf := HB0.out.trans (h2.mono HB0.out.size)
    clear p0 p1 p2 p3 p4 p5 p6 p7
    obtain ⟨p0, p1, p2, p3, p4, p5, p6, p7⟩ := spec_cells (FP.out.below h2)
    clear h2
    go_wp2_with fail
    go_ret2
    exact ⟨rfl, hBf⟩
set_option maxRecDepth 100000 in
set_option maxHeartbeats 8000000 in
theorem rtext_yes (m p b a z by' : Bool) (wd pr : Int) (c : Nat) (s : ByteArray) (w : World) (hs : s.size ≤ 1048576) (hc : c < 256) (hk : chkB wd pr c = true) (hv : vText.contains c.toUInt8 = true) :
    Calls Tryz.prog 17 #[.agg #[.bool m, .bool p, .bool b, .bool a, .bool z, .int .i64 wd, .int .i64 pr, .int .u8 (c : Int)], .string s, .bool by'] w fun e w' => e = .returned (.tuple #[.string ⟨(textT m wd pr c s by').toArray⟩, .int .i64 0]) ∧ Below w.heap.size w w' := by
  obtain ⟨d0, d1, d2, d3⟩ := chk_bd hk
  have hcc := verb_text hc hv
  have cK := fun W => rcheck_any m p b a z wd pr c W hc
  rw [hk, if_pos rfl] at cK
  have cS := fun (W : World) => refSub_any s 1 (pr + 1) by' W hs
  obtain ⟨t, ht⟩ : ∃ t, cutT pr c s by' = t := ⟨_, rfl⟩
  have hts := cut_size pr c s by'
  rw [ht] at hts
  have hcl := cnt_le t by'
  have cL := fun W => refLen_any t by' W (by omega)
  obtain ⟨n, hn⟩ : ∃ n, cnt t by' = n := ⟨_, rfl⟩
  rw [hn] at cL hcl
  have hwr : IntKind.i64.wrap (wd - (n : Int)) = wd - (n : Int) := by rw [IntKind.wrap_i64]; omega
  have hwr2 : IntKind.i64.wrap (pr + 1) = pr + 1 := by rw [IntKind.wrap_i64]; omega
  have cM := fun W => rmany_any 32 32 (wd - (n : Int)) W rfl (by omega)
  replace cM : ∀ W, Calls Tryz.prog 53 #[.int .u8 32, .int .i64 (wd - (n : Int))] W fun e w' => e = .returned (.string ⟨(List.replicate (wd - (n : Int)).toNat (32 : UInt8)).toArray⟩) ∧ Below W.heap.size W w' := cM
  obtain ⟨R, hR⟩ : ∃ R : ByteArray, (⟨(List.replicate (wd - (n : Int)).toNat (32 : UInt8)).toArray⟩ : ByteArray) = R := ⟨_, rfl⟩
  rw [hR] at cM
  have hRs : R.size ≤ 1024 := by rw [← hR, ← ba_len]; show (List.replicate (wd - (n : Int)).toNat (32 : UInt8)).length ≤ 1024; rw [List.length_replicate]; omega
  obtain ⟨X, hX⟩ : ∃ X : ByteArray, (⟨(textT m wd pr c s by').toArray⟩ : ByteArray) = X := ⟨_, rfl⟩
  have hX2 : X = if m = true then t ++ R else R ++ t := by
    rw [← hX, ← hR]
    unfold textT fillL
    rw [ht, hn]
    cases m
    · rw [if_neg (by decide), if_neg (by decide), ba_cat2]
    · rw [if_pos rfl, if_pos rfl, ba_cat]
  rw [hX]
  have hS : (((c : Int) == 115) = true ∧ ((c : Int) != 115) = false ∧ 0 ≤ pr ∧ subB s by' 1 (pr + 1) = t) ∨ (((c : Int) == 115) = false ∧ ((c : Int) != 115) = true ∧ ((c : Int) != 99) = false ∧ s = t) ∨ (((c : Int) == 115) = true ∧ ((c : Int) != 115) = false ∧ pr < 0 ∧ s = t) := by
    unfold cutT at ht
    by_cases h1 : c = 115 ∧ 0 ≤ pr
    · rw [if_pos h1] at ht
      exact Or.inl ⟨by rw [beq_iff_eq]; omega, by rw [bne_eq_false_iff_eq]; omega, h1.2, ht⟩
    · rw [if_neg h1] at ht
      rcases hcc with h2 | h2
      · exact Or.inr (Or.inl ⟨by rw [beq_eq_false_iff_ne]; omega, by rw [bne_iff_ne]; omega, by rw [bne_eq_false_iff_eq]; omega, ht⟩)
      · exact Or.inr (Or.inr ⟨by rw [beq_iff_eq]; omega, by rw [bne_eq_false_iff_eq]; omega, by omega, ht⟩)
  have CK := Lib.hid cK
  have CS := Lib.hid cS
  have CL := Lib.hid cL
  have CM := Lib.hid cM
  have HX2 := Lib.hid hX2
  have FP := Lib.hid (Five.new w #[.bool m, .bool p, .bool b, .bool a, .bool z, .int .i64 wd, .int .i64 pr, .int .u8 (c : Int)] 24)
  have HB0 := Lib.hid ((Below.refl w.heap.size w).alloc (Nat.le_refl _) (.cells #[.bool m, .bool p, .bool b, .bool a, .bool z, .int .i64 wd, .int .i64 pr, .int .u8 (c : Int)] 24))
  obtain ⟨W1, hW1⟩ : ∃ W1, w.alloc (.cells #[.bool m, .bool p, .bool b, .bool a, .bool z, .int .i64 wd, .int .i64 pr, .int .u8 (c : Int)] 24) = W1 := ⟨_, rfl⟩
  rw [hW1] at FP HB0
  have HW1 := Lib.hid hW1
  have hle : w.heap.size ≤ W1.heap.size := HB0.out.size
  obtain ⟨B, hB⟩ : ∃ B, w.heap.size = B := ⟨_, rfl⟩
  rw [hB] at FP HB0 hle ⊢
  have HB := Lib.hid hB
  have hts2 : (t.size : Int) ≤ 1048576 := by omega
  clear cK cS cL cM hW1 hX hX2 hR hk hv hcc ht hn hs hts hcl d0 d1 d3 hB
  rcases hS with ⟨hq, hq2, hp, hst⟩ | ⟨hq, hq2, hq3, rfl⟩ | ⟨hq, hq2, hp, rfl⟩
  all_goals
    obtain ⟨p0, p1, p2, p3, p4, p5, p6, p7⟩ := spec_cells FP.out
    go_enter Tryz.func17, Tryz.ntmps17
    go_wp2_with fail
    rw [HW1.out, HB.out]
    refine (CK.out _).mono ?_
    rintro e W2 ⟨rfl, h2⟩
    clear p0 p1 p2 p3 p4 p5 p6 p7
    obtain ⟨p0, p1, p2, p3, p4, p5, p6, p7⟩ := spec_cells (FP.out.below h2)
    have FP2 := Lib.hid (FP.out.below h2)
    have HB2 := Lib.hid (HB0.out.trans (h2.mono hle))
    have hle2 : B ≤ W2.heap.size := Nat.le_trans hle h2.size
    clear h2
    go_wp2_with fail
  · refine (CS.out _).mono ?_
    rintro e W3 ⟨rfl, h3⟩
    rw [hst]
    have FP3 := Lib.hid (FP2.out.below h3)
    have HB3 := Lib.hid (HB2.out.trans (h3.mono hle2))
    have hle3 : B ≤ W3.heap.size := Nat.le_trans hle2 h3.size
    clear p0 p1 p2 p3 p4 p5 p6 p7 h3
    obtain ⟨p0, p1, p2, p3, p4, p5, p6, p7⟩ := spec_cells FP3.out
    go_wp2_with fail
    have HCW := Lib.hid (fun (W : World) (h : Below W3.heap.size W3 W) => spec_cells (FP3.out.below h))
    have hR := Below.refl W3.heap.size W3
    go_region_held3 (fun w' => w'.cell? ⟨B, 0, none⟩ = some (.bool m) ∧ w'.cell? ⟨B, 1, none⟩ = some (.bool p) ∧ w'.cell? ⟨B, 2, none⟩ = some (.bool b) ∧ w'.cell? ⟨B, 3, none⟩ = some (.bool a) ∧ w'.cell? ⟨B, 4, none⟩ = some (.bool z) ∧ w'.cell? ⟨B, 5, none⟩ = some (.int .i64 wd) ∧ w'.cell? ⟨B, 6, none⟩ = some (.int .i64 pr) ∧ w'.cell? ⟨B, 7, none⟩ = some (.int .u8 (c : Int)))
      (first | (with_reducible exact S2) | (with_reducible exact S1) | go_keep)
      (first
      | (go_at_call 54; (with_reducible refine (CL.out _).mono ?_); rintro e W4 ⟨rfl, h4⟩; have b4 : Below W3.heap.size W3 W4 := ⟨h4.os, h4.tape, h4.output, h4.size, h4.block⟩; have S1 := HCW.out _ b4; clear h4)
      | (go_at_call 53; (with_reducible refine (CM.out _).mono ?_); rintro e W5 ⟨rfl, h5⟩; have b5 : Below W3.heap.size W3 W5 := b4.trans ((⟨h5.os, h5.tape, h5.output, h5.size, h5.block⟩ : Below W4.heap.size W4 W5).mono b4.size); have S2 := HCW.out _ b5; clear h5))
    all_goals
      have hBf := HB3.out.trans (b5.mono hle3)
      have hx := HX2.out
      clear p0 p1 p2 p3 p4 p5 p6 p7
      obtain ⟨p0, p1, p2, p3, p4, p5, p6, p7⟩ := HCW.out _ b5
      cases m
      · rw [if_neg (by decide)] at hx
        have HX3 := Lib.hid hx
        clear hx
        go_wp2_with fail
        go_ret2
        exact ⟨by rw [HX3.out]; rfl, by first | exact hBf | exact ⟨hBf.os, hBf.tape, hBf.output, hBf.size, hBf.block⟩⟩
      · rw [if_pos rfl] at hx
        have HX3 := Lib.hid hx
        clear hx
        go_wp2_with fail
        go_ret2
        exact ⟨by rw [HX3.out]; rfl, by first | exact hBf | exact ⟨hBf.os, hBf.tape, hBf.output, hBf.size, hBf.block⟩⟩
  all_goals
    have HCW := Lib.hid (fun (W : World) (h : Below W2.heap.size W2 W) => spec_cells (FP2.out.below h))
    have hR := Below.refl W2.heap.size W2
    go_region_held3 (fun w' => w'.cell? ⟨B, 0, none⟩ = some (.bool m) ∧ w'.cell? ⟨B, 1, none⟩ = some (.bool p) ∧ w'.cell? ⟨B, 2, none⟩ = some (.bool b) ∧ w'.cell? ⟨B, 3, none⟩ = some (.bool a) ∧ w'.cell? ⟨B, 4, none⟩ = some (.bool z) ∧ w'.cell? ⟨B, 5, none⟩ = some (.int .i64 wd) ∧ w'.cell? ⟨B, 6, none⟩ = some (.int .i64 pr) ∧ w'.cell? ⟨B, 7, none⟩ = some (.int .u8 (c : Int)))
      (first | (with_reducible exact S2) | (with_reducible exact S1) | go_keep)
      (first
      | (go_at_call 54; (with_reducible refine (CL.out _).mono ?_); rintro e W4 ⟨rfl, h4⟩; have b4 : Below W2.heap.size W2 W4 := ⟨h4.os, h4.tape, h4.output, h4.size, h4.block⟩; have S1 := HCW.out _ b4; clear h4)
      | (go_at_call 53; (with_reducible refine (CM.out _).mono ?_); rintro e W5 ⟨rfl, h5⟩; have b5 : Below W2.heap.size W2 W5 := b4.trans ((⟨h5.os, h5.tape, h5.output, h5.size, h5.block⟩ : Below W4.heap.size W4 W5).mono b4.size); have S2 := HCW.out _ b5; clear h5))
    all_goals
      have hBf := HB2.out.trans (b5.mono hle2)
      have hx := HX2.out
      clear p0 p1 p2 p3 p4 p5 p6 p7
      obtain ⟨p0, p1, p2, p3, p4, p5, p6, p7⟩ := HCW.out _ b5
      cases m
      · rw [if_neg (by decide)] at hx
        have HX3 := Lib.hid hx
        clear hx
        go_wp2_with fail
        go_ret2
        exact ⟨by rw [HX3.out]; rfl, by first | exact hBf | exact ⟨hBf.os, hBf.tape, hBf.output, hBf.size, hBf.block⟩⟩
      · rw [if_pos rfl] at hx
        have HX3 := Lib.hid hx
        clear hx
        go_wp2_with fail
        go_ret2
        exact ⟨by rw [HX3.out]; rfl, by first | exact hBf | exact ⟨hBf.os, hBf.tape, hBf.output, hBf.size, hBf.block⟩⟩
end Go.Proofs.YtmceakbjholjpaaGreatDoor

namespace Go.Proofs.YtmceakbjholjpaaGreatDoor
open Go.RowKit Go.Lib

set_option maxRecDepth 100000 in
set_option maxHeartbeats 8000000 in
theorem formatTexts_any (m p b a z by' : Bool) (wd pr c : Int) (s : ByteArray) (w : World) (hs : s.size ≤ 1048576) (c0 : 0 ≤ c) (c1 : c ≤ 255) (hT : PowTab w) (hU : Utf8Tabs 4 5 w) :
    Calls Tryz.prog 4 #[.agg #[.bool m, .bool p, .bool b, .bool a, .bool z, .int .i64 wd, .int .i64 pr, .int .u8 c], .string s, .bool by'] w fun e w' => e = .returned (.bool true) ∧ Below w.heap.size w w' := by
  obtain ⟨k, rfl⟩ : ∃ k : Nat, c = (k : Int) := ⟨c.toNat, by omega⟩
  have hk : k < 256 := by omega
  obtain ⟨X, E, hX⟩ : ∃ (X : ByteArray) (E : Int), (∀ W, Utf8Tabs 4 5 W → Calls Tryz.prog 16 #[.agg #[.bool m, .bool p, .bool b, .bool a, .bool z, .int .i64 wd, .int .i64 pr, .int .u8 (k : Int)], .string s, .bool by'] W fun e w' => e = .returned (.tuple #[.string X, .int .i64 E]) ∧ Below W.heap.size W w') ∧
      (∀ W, Calls Tryz.prog 17 #[.agg #[.bool m, .bool p, .bool b, .bool a, .bool z, .int .i64 wd, .int .i64 pr, .int .u8 (k : Int)], .string s, .bool by'] W fun e w' => e = .returned (.tuple #[.string X, .int .i64 E]) ∧ Below W.heap.size W w') := by
    by_cases h : chkB wd pr k = true ∧ vText.contains k.toUInt8 = true
    · exact ⟨_, _, fun W hW => ftext_yes m p b a z by' wd pr k s W hs hk h.1 h.2 hW, fun W => rtext_yes m p b a z by' wd pr k s W hs hk h.1 h.2⟩
    · have h2 : chkB wd pr k = false ∨ (chkB wd pr k = true ∧ vText.contains k.toUInt8 = false) := by
        cases e1 : chkB wd pr k with
        | false => exact Or.inl rfl
        | true =>
          cases e2 : vText.contains k.toUInt8 with
          | false => exact Or.inr ⟨rfl, rfl⟩
          | true => exact absurd ⟨e1, e2⟩ h
      exact ⟨_, _, fun W _ => ftext_no m p b a z by' wd pr k s W h2, fun W => rtext_no m p b a z by' wd pr k s W hk h2⟩
  have CX := Lib.hid hX.1
  have CY := Lib.hid hX.2
  have FP := Lib.hid (Five.new w #[.bool m, .bool p, .bool b, .bool a, .bool z, .int .i64 wd, .int .i64 pr, .int .u8 (k : Int)] 24)
  have HB0 := Lib.hid ((Below.refl w.heap.size w).alloc (Nat.le_refl _) (.cells #[.bool m, .bool p, .bool b, .bool a, .bool z, .int .i64 wd, .int .i64 pr, .int .u8 (k : Int)] 24))
  have HU := Lib.hid (fun (W : World) (h : Below w.heap.size w W) => tabs_below hU h (Nat.le_refl _))
  have HT := Lib.hid (Lib.tabBelow_of_tabIs hT)
  obtain ⟨W1, hW1⟩ : ∃ W1, w.alloc (.cells #[.bool m, .bool p, .bool b, .bool a, .bool z, .int .i64 wd, .int .i64 pr, .int .u8 (k : Int)] 24) = W1 := ⟨_, rfl⟩
  rw [hW1] at FP HB0
  have HW1 := Lib.hid hW1
  have CF := Lib.hid (ffixed_any W1 (HT.out _ HB0.out) (HU.out _ HB0.out))
  clear hX hT hU hW1 hs hk c0 c1 HT
  go_enter Tryz.func4, Tryz.ntmps4
  go_wp2_with fail
  rw [HW1.out]
  refine CF.out.mono ?_
  rintro e W2 ⟨rfl, h2⟩
  have FP2 := Lib.hid (FP.out.below h2)
  have HB2 := Lib.hid (HB0.out.trans (h2.mono HB0.out.size))
  clear h2
  obtain ⟨p0, p1, p2, p3, p4, p5, p6, p7⟩ := spec_cells FP2.out
  go_wp2_with fail
  refine (CX.out _ (HU.out _ HB2.out)).mono ?_
  rintro e W3 ⟨rfl, h3⟩
  have HB3 := Lib.hid (HB2.out.trans (h3.mono HB2.out.size))
  clear p0 p1 p2 p3 p4 p5 p6 p7
  obtain ⟨p0, p1, p2, p3, p4, p5, p6, p7⟩ := spec_cells (FP2.out.below h3)
  clear h3
  go_wp2_with fail
  refine (CY.out _).mono ?_
  rintro e W4 ⟨rfl, h4⟩
  have hBf := HB3.out.trans (h4.mono HB3.out.size)
  clear p0 p1 p2 p3 p4 p5 p6 p7 h4
  go_wp2_with fail
  go_ret
  exact ⟨rfl, hBf⟩
end Go.Proofs.YtmceakbjholjpaaGreatDoor

namespace Go.Proofs.YtmceakbjholjpaaGreatDoor
open Go Go.ChangeShapes Go.WideShapes Go.RowKit Go.Deep Go.WideElems Go.Maps Go.Joins

variable {H : Type} {enc : TypeId × Value → H} {P : Program} {w : World} {base : Nat} {spare : Nat → Bool} {held : Bool}
theorem array8 {α : Type} {cs : Array α} (h : cs.size = 8) : ∃ c0 c1 c2 c3 c4 c5 c6 c7, cs = #[c0, c1, c2, c3, c4, c5, c6, c7] := by
  obtain ⟨l⟩ := cs
  match l, h with
  | [c0, c1, c2, c3, c4, c5, c6, c7], _ => exact ⟨c0, c1, c2, c3, c4, c5, c6, c7, rfl⟩
theorem trod_struct8 {t : TypeId} {f0 f1 f2 f3 f4 f5 f6 f7 : Field} {fuel : Nat} {cs : List Value} {x : DataW H × List MemPlace} (ht : P.underlying t = some (.struct #[f0, f1, f2, f3, f4, f5, f6, f7])) (h : DataW.trod enc P w base spare held fuel t cs = some x) :
    ∃ y0 y1 y2 y3 y4 y5 y6 y7 n, x = (.agg [y0.1, y1.1, y2.1, y3.1, y4.1, y5.1, y6.1, y7.1], y0.2 ++ (y1.2 ++ (y2.2 ++ (y3.2 ++ (y4.2 ++ (y5.2 ++ (y6.2 ++ y7.2))))))) ∧ cs.length = P.cellsOf t ∧ DataW.trod enc P w base spare held n f0.type ((cs.drop f0.offset).take (P.cellsOf f0.type)) = some y0 ∧ DataW.trod enc P w base spare held n f1.type ((cs.drop f1.offset).take (P.cellsOf f1.type)) = some y1 ∧ DataW.trod enc P w base spare held n f2.type ((cs.drop f2.offset).take (P.cellsOf f2.type)) = some y2 ∧ DataW.trod enc P w base spare held n f3.type ((cs.drop f3.offset).take (P.cellsOf f3.type)) = some y3 ∧ DataW.trod enc P w base spare held n f4.type ((cs.drop f4.offset).take (P.cellsOf f4.type)) = some y4 ∧ DataW.trod enc P w base spare held n f5.type ((cs.drop f5.offset).take (P.cellsOf f5.type)) = some y5 ∧ DataW.trod enc P w base spare held n f6.type ((cs.drop f6.offset).take (P.cellsOf f6.type)) = some y6 ∧ DataW.trod enc P w base spare held n f7.type ((cs.drop f7.offset).take (P.cellsOf f7.type)) = some y7 := by
  obtain ⟨xs, n, _, rfl, hl, hlen, hf⟩ := DataW.trod_struct ht h
  match xs, hlen with
  | [y0, y1, y2, y3, y4, y5, y6, y7], _ => exact ⟨y0, y1, y2, y3, y4, y5, y6, y7, n, by simp, hl, by simpa using hf 0 f0 rfl, by simpa using hf 1 f1 rfl, by simpa using hf 2 f2 rfl, by simpa using hf 3 f3 rfl, by simpa using hf 4 f4 rfl, by simpa using hf 5 f5 rfl, by simpa using hf 6 f6 rfl, by simpa using hf 7 f7 rfl⟩
theorem trod_struct8_mk {t : TypeId} {f0 f1 f2 f3 f4 f5 f6 f7 : Field} {n : Nat} {cs : List Value} {y0 y1 y2 y3 y4 y5 y6 y7 : DataW H × List MemPlace} (ht : P.underlying t = some (.struct #[f0, f1, f2, f3, f4, f5, f6, f7])) (hl : cs.length = P.cellsOf t)
    (h0 : DataW.trod enc P w base spare held n f0.type ((cs.drop f0.offset).take (P.cellsOf f0.type)) = some y0) (h1 : DataW.trod enc P w base spare held n f1.type ((cs.drop f1.offset).take (P.cellsOf f1.type)) = some y1) (h2 : DataW.trod enc P w base spare held n f2.type ((cs.drop f2.offset).take (P.cellsOf f2.type)) = some y2) (h3 : DataW.trod enc P w base spare held n f3.type ((cs.drop f3.offset).take (P.cellsOf f3.type)) = some y3) (h4 : DataW.trod enc P w base spare held n f4.type ((cs.drop f4.offset).take (P.cellsOf f4.type)) = some y4) (h5 : DataW.trod enc P w base spare held n f5.type ((cs.drop f5.offset).take (P.cellsOf f5.type)) = some y5) (h6 : DataW.trod enc P w base spare held n f6.type ((cs.drop f6.offset).take (P.cellsOf f6.type)) = some y6) (h7 : DataW.trod enc P w base spare held n f7.type ((cs.drop f7.offset).take (P.cellsOf f7.type)) = some y7) :
    DataW.trod enc P w base spare held (n + 1) t cs = some (.agg [y0.1, y1.1, y2.1, y3.1, y4.1, y5.1, y6.1, y7.1], y0.2 ++ (y1.2 ++ (y2.2 ++ (y3.2 ++ (y4.2 ++ (y5.2 ++ (y6.2 ++ y7.2))))))) := by
  have := trod_struct_mk (enc := enc) (w := w) (base := base) (spare := spare) (held := held) (n := n) (xs := [y0, y1, y2, y3, y4, y5, y6, y7]) ht hl (by simp [h0, h1, h2, h3, h4, h5, h6, h7])
  simpa using this
theorem open_agg8 {r : Reach} {b0 : Nat} {t : TypeId} {f0 f1 f2 f3 f4 f5 f6 f7 : Field} {v : Value} {d : DataW H} {p : List MemPlace} (hs : P.underlying t = some (.struct #[f0, f1, f2, f3, f4, f5, f6, f7])) (hone : oneCellFields P #[f0, f1, f2, f3, f4, f5, f6, f7] = true) (hC : P.cellsOf t = 8)
    (hv : Value.okWide P w r b0 t v) (h : DataW.Trod enc P w base spare held t v d p) :
    ∃ (v0 v1 v2 v3 v4 v5 v6 v7 : Value) (y0 y1 y2 y3 y4 y5 y6 y7 : DataW H × List MemPlace) (n : Nat), v = .agg #[v0, v1, v2, v3, v4, v5, v6, v7] ∧ d = .agg [y0.1, y1.1, y2.1, y3.1, y4.1, y5.1, y6.1, y7.1] ∧ p = y0.2 ++ (y1.2 ++ (y2.2 ++ (y3.2 ++ (y4.2 ++ (y5.2 ++ (y6.2 ++ y7.2)))))) ∧
      DataW.trod enc P w base spare held n f0.type [v0] = some y0 ∧ DataW.trod enc P w base spare held n f1.type [v1] = some y1 ∧ DataW.trod enc P w base spare held n f2.type [v2] = some y2 ∧ DataW.trod enc P w base spare held n f3.type [v3] = some y3 ∧ DataW.trod enc P w base spare held n f4.type [v4] = some y4 ∧ DataW.trod enc P w base spare held n f5.type [v5] = some y5 ∧ DataW.trod enc P w base spare held n f6.type [v6] = some y6 ∧ DataW.trod enc P w base spare held n f7.type [v7] = some y7 := by
  obtain ⟨cs, rfl, hsz⟩ := okWide_struct hs hv
  obtain ⟨c0, c1, c2, c3, c4, c5, c6, c7, rfl⟩ := array8 (hsz.trans hC)
  obtain ⟨fuel, hf⟩ := h
  obtain ⟨y0, y1, y2, y3, y4, y5, y6, y7, n, hx, _, h0, h1, h2, h3, h4, h5, h6, h7⟩ := trod_struct8 hs hf
  obtain ⟨o0, k0⟩ := hone_of hone 0 f0 rfl
  obtain ⟨o1, k1⟩ := hone_of hone 1 f1 rfl
  obtain ⟨o2, k2⟩ := hone_of hone 2 f2 rfl
  obtain ⟨o3, k3⟩ := hone_of hone 3 f3 rfl
  obtain ⟨o4, k4⟩ := hone_of hone 4 f4 rfl
  obtain ⟨o5, k5⟩ := hone_of hone 5 f5 rfl
  obtain ⟨o6, k6⟩ := hone_of hone 6 f6 rfl
  obtain ⟨o7, k7⟩ := hone_of hone 7 f7 rfl
  simp only [Prod.mk.injEq] at hx
  exact ⟨c0, c1, c2, c3, c4, c5, c6, c7, y0, y1, y2, y3, y4, y5, y6, y7, n, rfl, hx.1, hx.2, by simpa [Value.cells, o0, k0] using h0, by simpa [Value.cells, o1, k1] using h1, by simpa [Value.cells, o2, k2] using h2, by simpa [Value.cells, o3, k3] using h3, by simpa [Value.cells, o4, k4] using h4, by simpa [Value.cells, o5, k5] using h5, by simpa [Value.cells, o6, k6] using h6, by simpa [Value.cells, o7, k7] using h7⟩
theorem shut_agg8 {t : TypeId} {f0 f1 f2 f3 f4 f5 f6 f7 : Field} {v0 v1 v2 v3 v4 v5 v6 v7 : Value} {y0 y1 y2 y3 y4 y5 y6 y7 : DataW H × List MemPlace} (hs : P.underlying t = some (.struct #[f0, f1, f2, f3, f4, f5, f6, f7])) (hone : oneCellFields P #[f0, f1, f2, f3, f4, f5, f6, f7] = true) (hC : P.cellsOf t = 8)
    (t0 : ∃ n, DataW.trod enc P w base spare held n f0.type [v0] = some y0) (t1 : ∃ n, DataW.trod enc P w base spare held n f1.type [v1] = some y1) (t2 : ∃ n, DataW.trod enc P w base spare held n f2.type [v2] = some y2) (t3 : ∃ n, DataW.trod enc P w base spare held n f3.type [v3] = some y3) (t4 : ∃ n, DataW.trod enc P w base spare held n f4.type [v4] = some y4) (t5 : ∃ n, DataW.trod enc P w base spare held n f5.type [v5] = some y5) (t6 : ∃ n, DataW.trod enc P w base spare held n f6.type [v6] = some y6) (t7 : ∃ n, DataW.trod enc P w base spare held n f7.type [v7] = some y7) :
    DataW.Trod enc P w base spare held t (.agg #[v0, v1, v2, v3, v4, v5, v6, v7]) (.agg [y0.1, y1.1, y2.1, y3.1, y4.1, y5.1, y6.1, y7.1]) (y0.2 ++ (y1.2 ++ (y2.2 ++ (y3.2 ++ (y4.2 ++ (y5.2 ++ (y6.2 ++ y7.2))))))) := by
  obtain ⟨n0, t0⟩ := t0
  obtain ⟨n1, t1⟩ := t1
  obtain ⟨n2, t2⟩ := t2
  obtain ⟨n3, t3⟩ := t3
  obtain ⟨n4, t4⟩ := t4
  obtain ⟨n5, t5⟩ := t5
  obtain ⟨n6, t6⟩ := t6
  obtain ⟨n7, t7⟩ := t7
  obtain ⟨o0, k0⟩ := hone_of hone 0 f0 rfl
  obtain ⟨o1, k1⟩ := hone_of hone 1 f1 rfl
  obtain ⟨o2, k2⟩ := hone_of hone 2 f2 rfl
  obtain ⟨o3, k3⟩ := hone_of hone 3 f3 rfl
  obtain ⟨o4, k4⟩ := hone_of hone 4 f4 rfl
  obtain ⟨o5, k5⟩ := hone_of hone 5 f5 rfl
  obtain ⟨o6, k6⟩ := hone_of hone 6 f6 rfl
  obtain ⟨o7, k7⟩ := hone_of hone 7 f7 rfl
  obtain ⟨m, hm⟩ : ∃ m, m = n0 + n1 + n2 + n3 + n4 + n5 + n6 + n7 := ⟨_, rfl⟩
  have ts := trod_struct8_mk (enc := enc) (w := w) (base := base) (spare := spare) (held := held) (n := m) (cs := [v0, v1, v2, v3, v4, v5, v6, v7]) hs (by simp [hC])
    (by simpa [o0, k0] using DataW.trod_le (show n0 ≤ m by omega) t0) (by simpa [o1, k1] using DataW.trod_le (show n1 ≤ m by omega) t1) (by simpa [o2, k2] using DataW.trod_le (show n2 ≤ m by omega) t2) (by simpa [o3, k3] using DataW.trod_le (show n3 ≤ m by omega) t3) (by simpa [o4, k4] using DataW.trod_le (show n4 ≤ m by omega) t4) (by simpa [o5, k5] using DataW.trod_le (show n5 ≤ m by omega) t5) (by simpa [o6, k6] using DataW.trod_le (show n6 ≤ m by omega) t6) (by simpa [o7, k7] using DataW.trod_le (show n7 ≤ m by omega) t7)
  exact ⟨_, by simpa [Value.cells] using ts⟩
end Go.Proofs.YtmceakbjholjpaaGreatDoor
