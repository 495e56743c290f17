/- The law UstrParts, walked. -/
import Derived.Deep.RegionHeld3
import Derived.Test.YtaemijgfngdjlaaDoorUstrIy
import Derived.Test.YtaemijgfngdjlaaDoorUstrSb
import Derived.Test.YtaemijgfngdjlaaDoorUstrK
namespace Go.Proofs.YtaemijgfngdjlaaDoor
open Go.RowKit Go.Lib

theorem way_cells {w0 W : World} {g : Nat} {F T : Int} {b : Bool} (h0 : w0.cell? ⟨g, 0, none⟩ = some (.int .i64 F)) (h1 : w0.cell? ⟨g, 1, none⟩ = some (.int .i64 T)) (h2 : w0.cell? ⟨g, 2, none⟩ = some (.bool b)) (hB : Below w0.heap.size w0 W) :
    W.cell? ⟨g, 0, none⟩ = some (.int .i64 F) ∧ W.cell? ⟨g, 1, none⟩ = some (.int .i64 T) ∧ W.cell? ⟨g, 2, none⟩ = some (.bool b) := by
  have hl := World.block_lt_of_cell? w0 _ h0
  exact ⟨(hB.cell (p := ⟨g, 0, none⟩) hl).trans h0, (hB.cell (p := ⟨g, 1, none⟩) hl).trans h1, (hB.cell (p := ⟨g, 2, none⟩) hl).trans h2⟩

set_option maxRecDepth 100000 in
set_option maxHeartbeats 4000000 in
theorem ustrParts_any (s t : ByteArray) (F T : Int) (b : Bool) (w : World) (hs : s.size ≤ 1048576) (hts : t.size ≤ 1048576) (hT : Utf8Tabs 0 1 w) :
    Calls Tryd.prog 6 #[.string s, .string t, .agg #[.int .i64 F, .int .i64 T, .bool b]] w fun e w' => e = .returned (.bool true) ∧ Below w.heap.size w w' := by
  have hT0 : Utf8Tabs 0 1 (w.alloc (.cells #[.int .i64 F, .int .i64 T, .bool b] 36)) := tabs_below hT ((Below.refl _ _).alloc (Nat.le_refl _) _) (Nat.le_refl _)
  have FX := Lib.hid (fixed_any _ hT0); clear hT0
  have HT := Lib.hid hT; clear hT
  have cP := fun (W : World) h => callsIn_wide.1 (place_in s F b W hs h)
  have cQ := fun (W : World) => refPlace_any s F b W hs
  obtain ⟨P, hP⟩ : ∃ P, placeZ s b F = P := ⟨_, rfl⟩
  rw [hP] at cP cQ
  have cL := fun (W : World) => len_any s b W (by omega)
  have cM := fun (W : World) => refLen_any s b W hs
  have cS := fun (W : World) h => callsIn_wide.1 (sub_in s F T b W hs h)
  have cR := fun (W : World) => refSub_any s F T b W hs
  obtain ⟨Y, hY⟩ : ∃ Y, subB s b F T = Y := ⟨_, rfl⟩
  rw [hY] at cS cR
  have cI := fun (W : World) h => index_any s t b W (by omega) hts h
  have cJ := fun (W : World) => refIndex_any s t b W hs hts
  have CP := Lib.hid cP
  have CQ := Lib.hid cQ
  have CL := Lib.hid cL
  have CM := Lib.hid cM
  have CS := Lib.hid cS
  have CR := Lib.hid cR
  have CI := Lib.hid cI
  have CJ := Lib.hid cJ
  obtain ⟨P1, P2⟩ := P
  clear cP cQ cL cM cS cR cI cJ hP hY
  go_enter Tryd.func6, Tryd.ntmps6
  go_wp2_with fail
  refine FX.out.mono ?_
  rintro e w1 ⟨rfl, hb1⟩
  have hB1 : Below w.heap.size w w1 := ((Below.refl w.heap.size w).alloc (Nat.le_refl _) _).trans (hb1.mono (by simp))
  have hc0 : ∀ j v, #[Value.int .i64 F, .int .i64 T, .bool b][j]? = some v → w1.cell? ⟨w.heap.size, j, none⟩ = some v := fun j v h => by
    rw [hb1.cell (p := ⟨w.heap.size, j, none⟩) (by simp), World.cell?_alloc_new]; exact h
  have c0 := hc0 0 _ rfl
  have c1 := hc0 1 _ rfl
  have c2 := hc0 2 _ rfl
  have T1 := Lib.hid (tabs_below HT.out hB1 (Nat.le_refl _))
  clear hb1 hc0 FX
  go_wp2_with fail
  refine (CP.out _ T1.out).mono ?_
  rintro e w2 ⟨rfl, hb2⟩
  obtain ⟨c0, c1, c2⟩ := way_cells c0 c1 c2 hb2
  have hB2 := hB1.trans (hb2.mono hB1.size)
  clear hb2 hB1 T1
  go_wp2_with fail
  refine (CQ.out _).mono ?_
  rintro e w3 ⟨rfl, hb3⟩
  obtain ⟨c0, c1, c2⟩ := way_cells c0 c1 c2 hb3
  have hB3 := hB2.trans (hb3.mono hB2.size)
  have T3 := tabs_below HT.out hB3 (Nat.le_refl _)
  have HTW := Lib.hid (fun (W : World) (h : Below w3.heap.size w3 W) => tabs_below T3 h (Nat.le_refl _))
  have HCW := Lib.hid (fun (W : World) (h : Below w3.heap.size w3 W) => way_cells c0 c1 c2 h)
  clear hb3 hB2 T3 CP CQ
  go_wp2
  have hR := Below.refl w3.heap.size w3
  go_region_held3 (fun w' => w'.cell? ⟨w.heap.size, 0, none⟩ = some (.int .i64 F) ∧ w'.cell? ⟨w.heap.size, 1, none⟩ = some (.int .i64 T) ∧ w'.cell? ⟨w.heap.size, 2, none⟩ = some (.bool b))
    (first | (with_reducible exact S6) | (with_reducible exact S5) | (with_reducible exact S4) | (with_reducible exact S3) | (with_reducible exact S2) | (with_reducible exact S1) | go_keep)
    (first
      | (go_at_call 20; refine (CL.out _).mono ?_; rintro e W1 ⟨rfl, h1⟩; have b1 : Below w3.heap.size w3 W1 := hR.drew.trans h1; have S1 := HCW.out _ b1)
      | (go_at_call 21; refine (CM.out _).mono ?_; rintro e W2 ⟨rfl, h2⟩; have b2 : Below w3.heap.size w3 W2 := b1.trans (h2.mono b1.size); have S2 := HCW.out _ b2)
      | (go_at_call 22; refine (CS.out _ (HTW.out _ b2)).mono ?_; rintro e W3 ⟨rfl, h3⟩; have b3 : Below w3.heap.size w3 W3 := b2.trans (h3.mono b2.size); have S3 := HCW.out _ b3)
      | (go_at_call 23; refine (CR.out _).mono ?_; rintro e W4 ⟨rfl, h4⟩; have b4 : Below w3.heap.size w3 W4 := b3.trans (h4.mono b3.size); have S4 := HCW.out _ b4)
      | (go_at_call 24; refine (CI.out _ (HTW.out _ b4)).mono ?_; rintro e W5 ⟨⟨r, rfl, hr⟩, h5⟩; have b5 : Below w3.heap.size w3 W5 := b4.trans (h5.mono b4.size); have S5 := HCW.out _ b5)
      | (go_at_call 25; refine (CJ.out _).mono ?_; rintro e W6 ⟨⟨q, rfl, hq⟩, h6⟩; obtain rfl := idx_unique hr hq; have b6 : Below w3.heap.size w3 W6 := b5.trans (h6.mono b5.size); have S6 := HCW.out _ b6))
  all_goals
    have hBz := hB3.trans (b6.mono hB3.size)
    go_wp2
    go_ret
    exact ⟨rfl, hBz⟩
end Go.Proofs.YtaemijgfngdjlaaDoor
