/- The document's example of layer 2. -/
import Derived.Test.YtflnackpkcldjaaDoorNatY
import Derived.Test.YtflnackpkcldjaaDoorNatU
namespace Go.Proofs.YtflnackpkcldjaaDoor
open Go.RowKit Go.Lib

theorem norm_of {B : Nat} {l : List Nat} (h : l.all (fun x => decide (x < B)) = true) (ht : l.getLast? ≠ some 0) : Norm B l := ⟨fun x hx => of_decide_eq_true (List.all_eq_true.1 h x hx), ht⟩
theorem dig_a : dig B32 18446744073709551616 = [0, 0, 1] := dig_eq (by decide) (norm_of (by decide) (by decide)) (by decide)
theorem dig_q : dig B32 1431655765 = [1431655765] := dig_eq (by decide) (norm_of (by decide) (by decide)) (by decide)
theorem dig_r : dig B32 4294967296 = [0, 1] := dig_eq (by decide) (norm_of (by decide) (by decide)) (by decide)
theorem dig_t : dig 10 18446744073709551616 = [6, 1, 6, 1, 5, 5, 9, 0, 7, 3, 7, 0, 4, 4, 7, 6, 4, 4, 8, 1] := dig_eq (by decide) (norm_of (by decide) (by decide)) (by decide)
/-- The example's text. -/
def exText : ByteArray := ⟨#[49, 56, 52, 52, 54, 55, 52, 52, 48, 55, 51, 55, 48, 57, 53, 53, 49, 54, 49, 54]⟩
theorem ex_list : exText.data.toList = [49, 56, 52, 52, 54, 55, 52, 52, 48, 55, 51, 55, 48, 57, 53, 53, 49, 54, 49, 54] := rfl
theorem ex_parse : parseRes exText = ([0, 0, 1], 0) := by
  have hd : isDec exText = true := isDec_iff.2 ⟨by decide, by rw [ex_list]; unfold Dec; decide⟩
  have hp : pv exText.data.toList = 18446744073709551616 := by rw [ex_list]; decide
  rw [parseRes, if_pos hd, hp, natRes, dig_a, if_pos (by decide)]
theorem vld_of {xs : List Nat} (h : xs.length ≤ 256) (ht : xs.getLast? ≠ some 0) : vld xs = true := vld_iff.2 ⟨h, ht⟩
theorem ex_div : divRes [0, 0, 1] [0, 3] = ([1431655765], [0, 1], 0) := by
  have e1 : vl B32 [0, 0, 1] / vl B32 [0, 3] = 1431655765 := by decide
  have e2 : vl B32 [0, 0, 1] % vl B32 [0, 3] = 4294967296 := by decide
  rw [divRes, if_pos ⟨vld_of (by decide) (by decide), vld_of (by decide) (by decide)⟩, if_neg (by decide), e1, e2, dig_q, dig_r]
theorem ex_text : textRes [0, 0, 1] = ([49, 56, 52, 52, 54, 55, 52, 52, 48, 55, 51, 55, 48, 57, 53, 53, 49, 54, 49, 54], 0) := by
  have e1 : vl B32 [0, 0, 1] = 18446744073709551616 := by decide
  rw [textRes, if_pos (vld_of (by decide) (by decide)), e1, decs, if_neg (by decide), dig_t]
  rfl
theorem lim_ex {l : List Nat} (h : l.all (fun x => decide (x < B32)) = true) : Lim B32 l := fun x hx => of_decide_eq_true (List.all_eq_true.1 h x hx)

set_option maxRecDepth 100000 in
set_option maxHeartbeats 4000000 in
theorem fixed_any (w : World) : Calls Tryd.prog 9 #[] w fun e w' => e = .returned (.bool true) ∧ Below w.heap.size w w' := by
  have cP := parse_any exText w (by decide)
  rw [ex_parse] at cP
  have CP := Lib.hid cP
  clear cP
  go_enter Tryd.func9, Tryd.ntmps9
  go_wp2_with fail
  refine CP.out.mono ?_
  rintro e w1 ⟨v, rfl, hO1, hB1⟩
  clear CP
  obtain ⟨g1, cap1, rfl, hg1, _⟩ := hO1.form (by decide)
  have hO2 := (own_pair w1 0 3 47)
  have hBa := (Below.refl w1.heap.size w1).alloc (Nat.le_refl _) (.cells #[.int .u32 (0 : Nat), .int .u32 (3 : Nat)] 47)
  have cD := div_any (some ⟨g1, 0, none⟩) (some ⟨w1.heap.size, 0, none⟩) cap1 2 [0, 0, 1] [0, 3] _ (lim_ex (by decide)) (lim_ex (by decide)) (by decide) (by decide) (fun e => by cases e) (hO1.rd.below hBa) hO2.rd
  rw [ex_div] at cD
  have CD := Lib.hid cD
  clear cD hO2
  go_wp2_with fail
  refine CD.out.mono ?_
  rintro e w2 ⟨v, v', rfl, hq, hr, _, hB2⟩
  clear CD
  obtain ⟨gq, cq, rfl, hgq, _⟩ := hq.form (by decide)
  obtain ⟨gr, cr, rfl, hgr, _⟩ := hr.form (by decide)
  have hBw1 : Below w1.heap.size w1 w2 := hBa.trans (hB2.mono hBa.size)
  have hO3 := hO1.below hBw1
  have cT := text_any (some ⟨g1, 0, none⟩) cap1 [0, 0, 1] w2 (lim_ex (by decide)) (by decide) (fun e => by cases e) hO3.rd
  rw [ex_text] at cT
  have CT := Lib.hid cT
  have HO3 := Lib.hid hO3
  have HQ := Lib.hid hq
  have HRR := Lib.hid hr
  have hBz := hB1.trans (hBw1.mono hB1.size)
  clear cT hO1 hO3 hq hr hBa hB2
  go_wp2_with fail
  refine CT.out.mono ?_
  rintro e w3 ⟨rfl, hB3⟩
  have c1 := (HO3.out.below hB3).cell 2 (by decide)
  have c2 := (HQ.out.below hB3).cell 0 (by decide)
  have c3 := (HRR.out.below hB3).cell 1 (by decide)
  have hB4 := hBz.trans (hB3.mono hBz.size)
  clear CT HO3 HQ HRR hBz hB3 hBw1 hB1
  go_wp2
  go_ret
  exact ⟨rfl, hB4⟩
end Go.Proofs.YtflnackpkcldjaaDoor
