/- Several texts in one (Contracts of layer 10: 'own', a repeat of no times; Contracts of layer 10: 'own', a character whose forms count as one; Contracts of layer 10: 'own', a character; Contracts of layer 10: 'own', a set; Contracts of layer 10: 'own', a repeat). -/
import Derived.Test.YtdfacbcenogplaaDoorPk10
namespace Go.Proofs.YtdfacbcenogplaaDoor
open Go.RowKit Go.Lib Go.Maps

set_option maxRecDepth 100000 in
set_option maxHeartbeats 8000000 in
theorem own_z (fold bytes : Bool) {kind code : Int} {neg : Bool} {set : List (Int × Int)} {lo hi : Int} {kids : List Tr} (IH0 : OwnKids fold bytes kids) (d : Nat) (P : Nat → Prop) (vs : Array Value) (W : World) (hsh : (Tr.mk kind code neg set lo hi kids).shape d = true) (h : TrV W P (.mk kind code neg set lo hi kids) vs) (k7z : kind = 7 ∧ hi = 0) :
    Calls Tryd.prog 47 #[.agg vs, .agg #[.bool fold, .bool bytes]] W (OwnOut W ((Tr.mk kind code neg set lo hi kids).ownT (chLow fold bytes))) := by
  obtain ⟨_, hen, _, _, hshk⟩ := shape_open hsh
  have HEN := Lib.hid hen
  clear hsh hen
  obtain ⟨sv, A, cap, rfl, hkl, hR, hI⟩ := h.open
  obtain ⟨A3, c3, rfl⟩ := rx_store_set hR
  have hsl : set.length ≤ 100000 := by obtain ⟨_, _, _, q, _⟩ := hR; exact q
  -- the four blocks
  have b1 := (Below.refl W.heap.size W).alloc (Nat.le_refl _) (.cells #[.int .i64 kind, .int .i64 code, .bool neg, .slice A3 set.length c3, .int .i64 lo, .int .i64 hi, .slice A kids.length cap] 58)
  have T1 := Blk.new W #[.int .i64 kind, .int .i64 code, .bool neg, .slice A3 set.length c3, .int .i64 lo, .int .i64 hi, .slice A kids.length cap] 58
  obtain ⟨W1, hW1⟩ : ∃ W1, W.alloc (.cells #[.int .i64 kind, .int .i64 code, .bool neg, .slice A3 set.length c3, .int .i64 lo, .int .i64 hi, .slice A kids.length cap] 58) = W1 := ⟨_, rfl⟩
  have hz1 : W1.heap.size = W.heap.size + 1 := by rw [← hW1]; simp
  rw [hW1] at b1 T1
  have b2 := b1.alloc b1.size (.cells #[.bool fold, .bool bytes] 28)
  have Y2 := Blk.new W1 #[.bool fold, .bool bytes] 28
  have T2 := T1.alloc (.cells #[.bool fold, .bool bytes] 28)
  obtain ⟨W2, hW2⟩ : ∃ W2, W1.alloc (.cells #[.bool fold, .bool bytes] 28) = W2 := ⟨_, rfl⟩
  have hz2 : W2.heap.size = W.heap.size + 2 := by rw [← hW2]; simp [hz1]
  rw [hW2] at b2 T2 Y2
  have b3 := b2.alloc b2.size (.cells zero7 58)
  have R3 := Blk.new W2 zero7 58
  have T3 := T2.alloc (.cells zero7 58)
  have Y3 := Y2.alloc (.cells zero7 58)
  obtain ⟨W3, hW3⟩ : ∃ W3, W2.alloc (.cells zero7 58) = W3 := ⟨_, rfl⟩
  have hz3 : W3.heap.size = W.heap.size + 3 := by rw [← hW3]; simp [hz2]
  rw [hW3] at b3 T3 Y3 R3
  have b4 := b3.alloc b3.size (.cells #[.int .i64 kind, .int .i64 0, .bool false, .slice none 0 0, .int .i64 0, .int .i64 0, .slice none 0 0] 58)
  have N4 := Blk.new W3 #[.int .i64 kind, .int .i64 0, .bool false, .slice none 0 0, .int .i64 0, .int .i64 0, .slice none 0 0] 58
  have T4 := T3.alloc (.cells #[.int .i64 kind, .int .i64 0, .bool false, .slice none 0 0, .int .i64 0, .int .i64 0, .slice none 0 0] 58)
  have Y4 := Y3.alloc (.cells #[.int .i64 kind, .int .i64 0, .bool false, .slice none 0 0, .int .i64 0, .int .i64 0, .slice none 0 0] 58)
  have R4 := R3.alloc (.cells #[.int .i64 kind, .int .i64 0, .bool false, .slice none 0 0, .int .i64 0, .int .i64 0, .slice none 0 0] 58)
  obtain ⟨W4, hW4⟩ : ∃ W4, W3.alloc (.cells #[.int .i64 kind, .int .i64 0, .bool false, .slice none 0 0, .int .i64 0, .int .i64 0, .slice none 0 0] 58) = W4 := ⟨_, rfl⟩
  have hz4 : W4.heap.size = W.heap.size + 4 := by rw [← hW4]; simp [hz3]
  rw [hW4] at b4 T4 Y4 R4 N4
  rw [hz1] at Y4
  rw [hz2] at R4
  rw [hz3] at N4
  have N5 : Blk ((((((W4.setCell ⟨W.heap.size + 3, 1, none⟩ (.int .i64 0)).setCell ⟨W.heap.size + 3, 2, none⟩ (.bool false)).setCell ⟨W.heap.size + 3, 3, none⟩ (.slice none 0 0)).setCell ⟨W.heap.size + 3, 4, none⟩ (.int .i64 0)).setCell ⟨W.heap.size + 3, 5, none⟩ (.int .i64 0)).setCell ⟨W.heap.size + 3, 6, none⟩ (.slice none 0 0)) (W.heap.size + 3) #[.int .i64 kind, .int .i64 0, .bool false, .slice none 0 0, .int .i64 0, .int .i64 0, .slice none 0 0] 58 := N4.set.set.set.set.set.set
  have O5 : Off2 (W.heap.size + 3) (W.heap.size + 3) W4 ((((((W4.setCell ⟨W.heap.size + 3, 1, none⟩ (.int .i64 0)).setCell ⟨W.heap.size + 3, 2, none⟩ (.bool false)).setCell ⟨W.heap.size + 3, 3, none⟩ (.slice none 0 0)).setCell ⟨W.heap.size + 3, 4, none⟩ (.int .i64 0)).setCell ⟨W.heap.size + 3, 5, none⟩ (.int .i64 0)).setCell ⟨W.heap.size + 3, 6, none⟩ (.slice none 0 0)) := (((((Off2.setCell W4 _ _ 1 _).trans (Off2.setCell _ _ _ 2 _)).trans (Off2.setCell _ _ _ 3 _)).trans (Off2.setCell _ _ _ 4 _)).trans (Off2.setCell _ _ _ 5 _)).trans (Off2.setCell _ _ _ 6 _)
  obtain ⟨W5, hW5⟩ : ∃ W5, ((((((W4.setCell ⟨W.heap.size + 3, 1, none⟩ (.int .i64 0)).setCell ⟨W.heap.size + 3, 2, none⟩ (.bool false)).setCell ⟨W.heap.size + 3, 3, none⟩ (.slice none 0 0)).setCell ⟨W.heap.size + 3, 4, none⟩ (.int .i64 0)).setCell ⟨W.heap.size + 3, 5, none⟩ (.int .i64 0)).setCell ⟨W.heap.size + 3, 6, none⟩ (.slice none 0 0)) = W5 := ⟨_, rfl⟩
  rw [hW5] at N5 O5
  have hz5 : W.heap.size + 4 ≤ W5.heap.size := by have := O5.size; omega
  have b5 := b4.trans (O5.below (by omega) (by omega) b4.size)
  have T5 := T4.off2 O5 (by omega) (by omega)
  have Y5 := Y4.off2 O5 (by omega) (by omega)
  have R5 := R4.off2 O5 (by omega) (by omega)
  have e3 := N4.fro 1
  have e4 := N4.cell 1
  have IH := Lib.hid (fun (t : Tr) (ht : t ∈ kids) (vs : Array Value) (w : World) (hv : TrV w (fun g => g < W.heap.size ∧ P g) t vs) => IH0 t ht (d - 1) _ vs w (shapes_mem.1 hshk t ht) hv)
  have HKI := Lib.hid (fun (w : World) (hb : Below W.heap.size W w) => Tr.Ins.keep (w' := w) (P' := fun g => g < W.heap.size ∧ P g) (fun g hg hp => ⟨⟨hg, hp⟩, hb.block g hg⟩) kids A 0 hI)
  have CC := Lib.hid (fun (w : World) (hb : Below W.heap.size W w) => rg_clone (P := P) rfl (RgIn.kept (w' := w) (P' := P) hR (fun g hg hp => ⟨hp, hb.block g hg⟩)))
  have CF := Lib.hid (fun w => fold_any code bytes w)
  have d0 : W3.cell? ⟨W.heap.size, 0, none⟩ = some (.int .i64 kind) := T3.cell 0
  obtain ⟨⟨c0, c1, c2, c3', c4, c5, c6⟩, _⟩ := T5.seven
  obtain ⟨y0, y1⟩ := Y5.two
  obtain ⟨⟨n0, n1, n2, n3, n4, n5, n6⟩, f0, f1, f2, f3, f4, f5, f6⟩ := N5.seven
  obtain ⟨_, g0, g1, g2, g3, g4, g5, g6⟩ := N4.seven
  obtain ⟨ml, hml⟩ : ∃ ml, kids.length = ml := ⟨_, rfl⟩
  obtain ⟨sl, hsl2⟩ : ∃ sl, set.length = sl := ⟨_, rfl⟩
  have HML := Lib.hid hml
  have HSL := Lib.hid hsl2
  simp only [hml, hsl2] at hW1 T5 c3' c6 CC hkl hsl ⊢
  have HT4 := Lib.hid T5
  have HY4 := Lib.hid Y5
  obtain ⟨⟨r0, r1, r2, r3, r4, r5, r6⟩, s0, s1, s2, s3, s4, s5, s6⟩ := R5.seven
  have HR4 := Lib.hid R5
  have HN4 := Lib.hid N5
  have HB4 := Lib.hid b5
  obtain ⟨D, hD⟩ : ∃ D, (Tr.mk kind code neg set lo hi kids).ownT (chLow fold bytes) = D := ⟨_, rfl⟩
  rw [hD]
  rw [Tr.ownT] at hD
  have HD := Lib.hid hD
  clear h hR hI b1 b2 b3 b4 b5 T1 T2 T3 T4 T5 Y2 Y3 Y4 Y5 R3 R4 R5 N4 N5 O5 hml hsl2 hD hshk IH0
  have HZ := Lib.hid (show RgIn W5 (fun g => W.heap.size + 4 ≤ g ∧ RgB W5 g) [] (.slice none 0 0) from RgIn.nil _ _ _ _)
  obtain ⟨i0, hi0, hz0, hz1', hz2'⟩ := info_parts info_rx
  have HI := Lib.hid (And.intro hi0 (And.intro hz0 (And.intro hz1' hz2')))
  clear hi0 hz0 hz1' hz2'
  obtain ⟨rfl, rfl⟩ := k7z
  have HD2 := Lib.hid (show trK 1 = D by rw [← HD.out, if_pos ⟨rfl, rfl⟩])
  go_enter Tryd.func47, Tryd.ntmps47
  go_wp2_with fail
  clear hW1 hW2 hW3 hW4 hW5
  have hne : W.heap.size ≠ W.heap.size + 3 := by omega
  have hne2 : W.heap.size + 3 ≠ W.heap.size := by omega
  go_region
  have T6 := (HT4.out.other (j := 4) (u := .int .i64 lo) hne).other (j := 5) (u := .int .i64 0) hne
  have R6 := (HR4.out.other (g' := W.heap.size + 3) (j := 4) (u := .int .i64 lo) (by omega)).other (g' := W.heap.size + 3) (j := 5) (u := .int .i64 0) (by omega)
  have O6 := (Off2.setCell W5 (W.heap.size + 3) (W.heap.size + 3) 4 (.int .i64 lo)).trans (Off2.setCell _ (W.heap.size + 3) (W.heap.size + 3) 5 (.int .i64 0))
  have B6 := HB4.out.trans (O6.below (by omega) (by omega) HB4.out.size)
  obtain ⟨W6, hW6⟩ : ∃ W6, (W5.setCell ⟨W.heap.size + 3, 4, none⟩ (.int .i64 lo)).setCell ⟨W.heap.size + 3, 5, none⟩ (.int .i64 0) = W6 := ⟨_, rfl⟩
  rw [hW6] at T6 R6 B6 ⊢
  have t5 := T6.cell 5
  simp only [List.getElem?_toArray, List.getElem?_cons_succ, List.getElem?_cons_zero] at t5
  obtain ⟨⟨r0, r1, r2, r3, r4, r5, r6⟩, s0, s1, s2, s3, s4, s5, s6⟩ := R6.seven
  have R7 := rx_end7 (.int .i64 1) (.int .i64 0) (.bool false) (.slice none 0 0) (.int .i64 0) (.int .i64 0) (.slice none 0 0) R6
  have HR7 := Lib.hid R7
  have HB6 := Lib.hid B6
  clear hW6 T6 R6 O6 B6 R7 c0 c1 c2 c3' c4 c5 c6 y0 y1 n0 n1 n2 n3 n4 n5 n6 f0 f1 f2 f3 f4 f5 f6 g0 g1 g2 g3 g4 g5 g6 d0 e3 e4
  go_wp2_with fail
  obtain ⟨z7, o7⟩ := HR7.out
  have z8 := Blk.drew' z7
  obtain ⟨⟨x0, x1, x2, x3, x4, x5, x6⟩, _⟩ := z8.seven
  have FINB := (HB6.out.trans (o7.below (by omega) (by omega) HB6.out.size)).trans (below_drew' W.heap.size _)
  obtain ⟨WX, hWX⟩ : ∃ WX, (put7 W6 (W.heap.size + 2) (.int .i64 1) (.int .i64 0) (.bool false) (.slice none 0 0) (.int .i64 0) (.int .i64 0) (.slice none 0 0)).drew = WX := ⟨_, rfl⟩
  rw [hWX] at x0 x1 x2 x3 x4 x5 x6 FINB
  clear r0 r1 r2 r3 r4 r5 r6 s0 s1 s2 s3 s4 s5 s6 t5 z7 z8 o7 HR7
  unfold put7 at hWX
  rw [hWX]
  clear hWX
  refine bodyPost_ret (v := .agg #[.int .i64 1, .int .i64 0, .bool false, .slice none 0 0, .int .i64 0, .int .i64 0, .slice none 0 0]) (by simp only [results, Tryd.results47]; go_simp) rfl ?_
  rw [← HD2.out]
  exact ⟨_, rfl, TrV.leaf _ _ 1 0 false 0 0, FINB⟩

end Go.Proofs.YtdfacbcenogplaaDoor

namespace Go.Proofs.YtdfacbcenogplaaDoor
open Go.RowKit Go.Lib Go.Maps

set_option maxRecDepth 100000 in
set_option maxHeartbeats 8000000 in
theorem own_0 (fold bytes : Bool) {kind code : Int} {neg : Bool} {set : List (Int × Int)} {lo hi : Int} {kids : List Tr} (IH0 : OwnKids fold bytes kids) (d : Nat) (P : Nat → Prop) (vs : Array Value) (W : World) (hsh : (Tr.mk kind code neg set lo hi kids).shape d = true) (h : TrV W P (.mk kind code neg set lo hi kids) vs) (k7z : ¬ (kind = 7 ∧ hi = 0)) (q2 : kind = 2) (qf : fold = true) :
    Calls Tryd.prog 47 #[.agg vs, .agg #[.bool fold, .bool bytes]] W (OwnOut W ((Tr.mk kind code neg set lo hi kids).ownT (chLow fold bytes))) := by
  obtain ⟨_, hen, _, _, hshk⟩ := shape_open hsh
  have HEN := Lib.hid hen
  clear hsh hen
  obtain ⟨sv, A, cap, rfl, hkl, hR, hI⟩ := h.open
  obtain ⟨A3, c3, rfl⟩ := rx_store_set hR
  have hsl : set.length ≤ 100000 := by obtain ⟨_, _, _, q, _⟩ := hR; exact q
  -- the four blocks
  have b1 := (Below.refl W.heap.size W).alloc (Nat.le_refl _) (.cells #[.int .i64 kind, .int .i64 code, .bool neg, .slice A3 set.length c3, .int .i64 lo, .int .i64 hi, .slice A kids.length cap] 58)
  have T1 := Blk.new W #[.int .i64 kind, .int .i64 code, .bool neg, .slice A3 set.length c3, .int .i64 lo, .int .i64 hi, .slice A kids.length cap] 58
  obtain ⟨W1, hW1⟩ : ∃ W1, W.alloc (.cells #[.int .i64 kind, .int .i64 code, .bool neg, .slice A3 set.length c3, .int .i64 lo, .int .i64 hi, .slice A kids.length cap] 58) = W1 := ⟨_, rfl⟩
  have hz1 : W1.heap.size = W.heap.size + 1 := by rw [← hW1]; simp
  rw [hW1] at b1 T1
  have b2 := b1.alloc b1.size (.cells #[.bool fold, .bool bytes] 28)
  have Y2 := Blk.new W1 #[.bool fold, .bool bytes] 28
  have T2 := T1.alloc (.cells #[.bool fold, .bool bytes] 28)
  obtain ⟨W2, hW2⟩ : ∃ W2, W1.alloc (.cells #[.bool fold, .bool bytes] 28) = W2 := ⟨_, rfl⟩
  have hz2 : W2.heap.size = W.heap.size + 2 := by rw [← hW2]; simp [hz1]
  rw [hW2] at b2 T2 Y2
  have b3 := b2.alloc b2.size (.cells zero7 58)
  have R3 := Blk.new W2 zero7 58
  have T3 := T2.alloc (.cells zero7 58)
  have Y3 := Y2.alloc (.cells zero7 58)
  obtain ⟨W3, hW3⟩ : ∃ W3, W2.alloc (.cells zero7 58) = W3 := ⟨_, rfl⟩
  have hz3 : W3.heap.size = W.heap.size + 3 := by rw [← hW3]; simp [hz2]
  rw [hW3] at b3 T3 Y3 R3
  have b4 := b3.alloc b3.size (.cells #[.int .i64 kind, .int .i64 0, .bool false, .slice none 0 0, .int .i64 0, .int .i64 0, .slice none 0 0] 58)
  have N4 := Blk.new W3 #[.int .i64 kind, .int .i64 0, .bool false, .slice none 0 0, .int .i64 0, .int .i64 0, .slice none 0 0] 58
  have T4 := T3.alloc (.cells #[.int .i64 kind, .int .i64 0, .bool false, .slice none 0 0, .int .i64 0, .int .i64 0, .slice none 0 0] 58)
  have Y4 := Y3.alloc (.cells #[.int .i64 kind, .int .i64 0, .bool false, .slice none 0 0, .int .i64 0, .int .i64 0, .slice none 0 0] 58)
  have R4 := R3.alloc (.cells #[.int .i64 kind, .int .i64 0, .bool false, .slice none 0 0, .int .i64 0, .int .i64 0, .slice none 0 0] 58)
  obtain ⟨W4, hW4⟩ : ∃ W4, W3.alloc (.cells #[.int .i64 kind, .int .i64 0, .bool false, .slice none 0 0, .int .i64 0, .int .i64 0, .slice none 0 0] 58) = W4 := ⟨_, rfl⟩
  have hz4 : W4.heap.size = W.heap.size + 4 := by rw [← hW4]; simp [hz3]
  rw [hW4] at b4 T4 Y4 R4 N4
  rw [hz1] at Y4
  rw [hz2] at R4
  rw [hz3] at N4
  have N5 : Blk ((((((W4.setCell ⟨W.heap.size + 3, 1, none⟩ (.int .i64 0)).setCell ⟨W.heap.size + 3, 2, none⟩ (.bool false)).setCell ⟨W.heap.size + 3, 3, none⟩ (.slice none 0 0)).setCell ⟨W.heap.size + 3, 4, none⟩ (.int .i64 0)).setCell ⟨W.heap.size + 3, 5, none⟩ (.int .i64 0)).setCell ⟨W.heap.size + 3, 6, none⟩ (.slice none 0 0)) (W.heap.size + 3) #[.int .i64 kind, .int .i64 0, .bool false, .slice none 0 0, .int .i64 0, .int .i64 0, .slice none 0 0] 58 := N4.set.set.set.set.set.set
  have O5 : Off2 (W.heap.size + 3) (W.heap.size + 3) W4 ((((((W4.setCell ⟨W.heap.size + 3, 1, none⟩ (.int .i64 0)).setCell ⟨W.heap.size + 3, 2, none⟩ (.bool false)).setCell ⟨W.heap.size + 3, 3, none⟩ (.slice none 0 0)).setCell ⟨W.heap.size + 3, 4, none⟩ (.int .i64 0)).setCell ⟨W.heap.size + 3, 5, none⟩ (.int .i64 0)).setCell ⟨W.heap.size + 3, 6, none⟩ (.slice none 0 0)) := (((((Off2.setCell W4 _ _ 1 _).trans (Off2.setCell _ _ _ 2 _)).trans (Off2.setCell _ _ _ 3 _)).trans (Off2.setCell _ _ _ 4 _)).trans (Off2.setCell _ _ _ 5 _)).trans (Off2.setCell _ _ _ 6 _)
  obtain ⟨W5, hW5⟩ : ∃ W5, ((((((W4.setCell ⟨W.heap.size + 3, 1, none⟩ (.int .i64 0)).setCell ⟨W.heap.size + 3, 2, none⟩ (.bool false)).setCell ⟨W.heap.size + 3, 3, none⟩ (.slice none 0 0)).setCell ⟨W.heap.size + 3, 4, none⟩ (.int .i64 0)).setCell ⟨W.heap.size + 3, 5, none⟩ (.int .i64 0)).setCell ⟨W.heap.size + 3, 6, none⟩ (.slice none 0 0)) = W5 := ⟨_, rfl⟩
  rw [hW5] at N5 O5
  have hz5 : W.heap.size + 4 ≤ W5.heap.size := by have := O5.size; omega
  have b5 := b4.trans (O5.below (by omega) (by omega) b4.size)
  have T5 := T4.off2 O5 (by omega) (by omega)
  have Y5 := Y4.off2 O5 (by omega) (by omega)
  have R5 := R4.off2 O5 (by omega) (by omega)
  have e3 := N4.fro 1
  have e4 := N4.cell 1
  have IH := Lib.hid (fun (t : Tr) (ht : t ∈ kids) (vs : Array Value) (w : World) (hv : TrV w (fun g => g < W.heap.size ∧ P g) t vs) => IH0 t ht (d - 1) _ vs w (shapes_mem.1 hshk t ht) hv)
  have HKI := Lib.hid (fun (w : World) (hb : Below W.heap.size W w) => Tr.Ins.keep (w' := w) (P' := fun g => g < W.heap.size ∧ P g) (fun g hg hp => ⟨⟨hg, hp⟩, hb.block g hg⟩) kids A 0 hI)
  have CC := Lib.hid (fun (w : World) (hb : Below W.heap.size W w) => rg_clone (P := P) rfl (RgIn.kept (w' := w) (P' := P) hR (fun g hg hp => ⟨hp, hb.block g hg⟩)))
  have CF := Lib.hid (fun w => fold_any code bytes w)
  have d0 : W3.cell? ⟨W.heap.size, 0, none⟩ = some (.int .i64 kind) := T3.cell 0
  obtain ⟨⟨c0, c1, c2, c3', c4, c5, c6⟩, _⟩ := T5.seven
  obtain ⟨y0, y1⟩ := Y5.two
  obtain ⟨⟨n0, n1, n2, n3, n4, n5, n6⟩, f0, f1, f2, f3, f4, f5, f6⟩ := N5.seven
  obtain ⟨_, g0, g1, g2, g3, g4, g5, g6⟩ := N4.seven
  obtain ⟨ml, hml⟩ : ∃ ml, kids.length = ml := ⟨_, rfl⟩
  obtain ⟨sl, hsl2⟩ : ∃ sl, set.length = sl := ⟨_, rfl⟩
  have HML := Lib.hid hml
  have HSL := Lib.hid hsl2
  simp only [hml, hsl2] at hW1 T5 c3' c6 CC hkl hsl ⊢
  have HT4 := Lib.hid T5
  have HY4 := Lib.hid Y5
  obtain ⟨⟨r0, r1, r2, r3, r4, r5, r6⟩, s0, s1, s2, s3, s4, s5, s6⟩ := R5.seven
  have HR4 := Lib.hid R5
  have HN4 := Lib.hid N5
  have HB4 := Lib.hid b5
  obtain ⟨D, hD⟩ : ∃ D, (Tr.mk kind code neg set lo hi kids).ownT (chLow fold bytes) = D := ⟨_, rfl⟩
  rw [hD]
  rw [Tr.ownT] at hD
  have HD := Lib.hid hD
  clear h hR hI b1 b2 b3 b4 b5 T1 T2 T3 T4 T5 Y2 Y3 Y4 Y5 R3 R4 R5 N4 N5 O5 hml hsl2 hD hshk IH0
  have HZ := Lib.hid (show RgIn W5 (fun g => W.heap.size + 4 ≤ g ∧ RgB W5 g) [] (.slice none 0 0) from RgIn.nil _ _ _ _)
  obtain ⟨i0, hi0, hz0, hz1', hz2'⟩ := info_parts info_rx
  have HI := Lib.hid (And.intro hi0 (And.intro hz0 (And.intro hz1' hz2')))
  clear hi0 hz0 hz1' hz2'
  have HD1 := Lib.hid (show Tr.mk kind (if kind = 2 then chLow fold bytes code else 0) (decide (kind = 4) && neg) (if kind = 4 then set else []) (if kind = 7 then lo else 0) (if kind = 7 then hi else 0) (Tr.ownsT (chLow fold bytes) kids) = D from (if_neg k7z).symm.trans HD.out)
  clear HD
  clear k7z
  have hne : W.heap.size ≠ W.heap.size + 3 := by omega
  have hne2 : W.heap.size + 3 ≠ W.heap.size := by omega
  have OO := Lib.hid (fun (X : World) (o : Off2 (W.heap.size + 3) (W.heap.size + 3) W5 X) => And.intro (HT4.out.off2 o (by omega) (by omega)) (And.intro (HY4.out.off2 o (by omega) (by omega)) (And.intro (HR4.out.off2 o (by omega) (by omega)) (And.intro (HB4.out.trans (o.below (by omega) (by omega) HB4.out.size)) (Nat.le_trans hz5 o.size)))))
  subst q2
  subst qf
  clear CC
  have HM0 := Lib.hid (show ml = 0 by have := HEN.out; rw [HML.out] at this; simpa [enoughB] using this)
  go_enter Tryd.func47, Tryd.ntmps47
  go_wp2_with fail
  clear hW1 hW2 hW3 hW4 hW5
  refine (CF.out _).mono ?_
  rintro e w6 ⟨rfl, rfl⟩
  go_wp2_with fail
  have o6 := (Off2.setCell W5 (W.heap.size + 3) (W.heap.size + 3) 1 (.int .i64 code)).trans (Off2.setCell _ (W.heap.size + 3) (W.heap.size + 3) 1 (.int .i64 (foldZ code bytes)))
  have HND := Lib.hid ((HN4.out.set (j := 1) (u := .int .i64 code)).set (j := 1) (u := .int .i64 (foldZ code bytes)))
  have HOF := Lib.hid (OO.out _ o6)
  have HSET := Lib.hid (HZ.out.kept (w' := ((W5.setCell ⟨W.heap.size + 3, 1, none⟩ (.int .i64 code)).setCell ⟨W.heap.size + 3, 1, none⟩ (.int .i64 (foldZ code bytes)))) (P' := fun g => W.heap.size + 4 ≤ g ∧ RgB ((W5.setCell ⟨W.heap.size + 3, 1, none⟩ (.int .i64 code)).setCell ⟨W.heap.size + 3, 1, none⟩ (.int .i64 (foldZ code bytes))) g) (fun g hg hp => ⟨⟨hp.1, hp.2.kept (o6.block g hg (by omega) (by omega))⟩, o6.block g hg (by omega) (by omega)⟩))
  have HDD := Lib.hid (show Tr.mk 2 (foldZ code bytes) false [] 0 0 (Tr.ownsT (chLow true bytes) kids) = D from HD1.out)
  clear o6 HD1
  obtain ⟨W6, hW6⟩ : ∃ W6, ((W5.setCell ⟨W.heap.size + 3, 1, none⟩ (.int .i64 code)).setCell ⟨W.heap.size + 3, 1, none⟩ (.int .i64 (foldZ code bytes))) = W6 := ⟨_, rfl⟩
  rw [hW6] at HND HOF HSET
  rw [hW6]
  clear hW6 OO c0 c1 c2 c3' c4 c5 c6 y0 y1 n0 n1 n2 n3 n4 n5 n6 f0 f1 f2 f3 f4 f5 f6 g0 g1 g2 g3 g4 g5 g6 d0 e3 e4 r0 r1 r2 r3 r4 r5 r6 s0 s1 s2 s3 s4 s5 s6 HZ HT4 HY4 HR4 HN4 HB4 CF 
  go_loopw [50] (fun kv wr => ∃ (k : Nat) (v6 : Value), kv = .int .i64 (k : Int) ∧ k ≤ ml ∧ Blk wr (W.heap.size + 3) #[.int .i64 2, .int .i64 (foldZ code bytes), .bool false, (.slice none 0 0), .int .i64 0, .int .i64 0, v6] 58 ∧ KdsT wr (W.heap.size + 4) v6 (Tr.ownsT (chLow true bytes) (kids.take k)) ∧
    (Blk wr W.heap.size #[.int .i64 2, .int .i64 code, .bool neg, .slice A3 sl c3, .int .i64 lo, .int .i64 hi, .slice A ml cap] 58 ∧ Blk wr (W.heap.size + 1) #[.bool true, .bool bytes] 28 ∧ Blk wr (W.heap.size + 2) zero7 58 ∧ Below W.heap.size W wr ∧ W.heap.size + 4 ≤ wr.heap.size) ∧
    RgIn wr (fun g => W.heap.size + 4 ≤ g ∧ RgB wr g) [] (.slice none 0 0)) (fun kv _ => ml - (RowKit.intOf kv).toNat)
  case atStart => exact ⟨0, _, rfl, Nat.zero_le _, HND.out, by rw [List.take_zero, Tr.ownsT]; exact KdsT.nil _ _, HOF.out, HSET.out⟩
  case round =>
    obtain ⟨k, v6, rfl, hk, hN, hK, ⟨hT, hY, hR, hB, hz⟩, hS⟩ := hrel
    have hlen : (Tr.ownsT (chLow true bytes) (kids.take k)).length = k := by
      have := HML.out
      rw [ownsT_len, List.length_take]
      omega
    obtain ⟨A6, cap6, rfl⟩ := hK.slice
    rw [hlen] at hN hK
    have HLEN := Lib.hid hlen
    clear hlen
    by_cases hlt : k < ml
    · exact absurd hlt (by have := HM0.out; omega)
    · obtain rfl : k = ml := by omega
      have hkn : kids.take k = kids := List.take_of_length_le (by rw [HML.out]; omega)
      have HF := Lib.hid (And.intro hN (And.intro hK (And.intro hT (And.intro hR (And.intro hB hS)))))
      have HKN := Lib.hid hkn
      obtain ⟨⟨n0, n1, n2, n3, n4, n5, n6⟩, _⟩ := hN.seven
      obtain ⟨⟨r0, r1, r2, r3, r4, r5, r6⟩, s0, s1, s2, s3, s4, s5, s6⟩ := hR.seven
      have HZ2 := Lib.hid hz
      clear hkn hN hK hT hY hR hB hS IH HKI hz
      go_wp2_with fail
      obtain ⟨hN, hK, hT, hR, hB, hS⟩ := HF.out
      have hz := HZ2.out
      obtain ⟨z7, o7⟩ := rx_end7 (.int .i64 2) (.int .i64 (foldZ code bytes)) (.bool false) (.slice none 0 0) (.int .i64 0) (.int .i64 0) (.slice A6 k cap6) hR
      obtain ⟨⟨x0, x1, x2, x3, x4, x5, x6⟩, _⟩ := z7.seven
      have FINB := hB.trans (o7.below (by omega) (by omega) hB.size)
      have KF := KdsT.kept (w' := put7 wr (W.heap.size + 2) (.int .i64 2) (.int .i64 (foldZ code bytes)) (.bool false) (.slice none 0 0) (.int .i64 0) (.int .i64 0) (.slice A6 k cap6)) hK (fun g hg hn => o7.block g hg (by omega) (by omega))
      have SF := RgIn.kept (w' := put7 wr (W.heap.size + 2) (.int .i64 2) (.int .i64 (foldZ code bytes)) (.bool false) (.slice none 0 0) (.int .i64 0) (.int .i64 0) (.slice A6 k cap6)) (P' := fun g => W.heap.size ≤ g ∧ SetB (put7 wr (W.heap.size + 2) (.int .i64 2) (.int .i64 (foldZ code bytes)) (.bool false) (.slice none 0 0) (.int .i64 0) (.int .i64 0) (.slice A6 k cap6)) g) hS (fun g hg hp => ⟨⟨by omega, (hp.2.kept (o7.block g hg (by omega) (by omega))).set⟩, o7.block g hg (by omega) (by omega)⟩)
      obtain ⟨WX, hWX⟩ : ∃ WX, put7 wr (W.heap.size + 2) (.int .i64 2) (.int .i64 (foldZ code bytes)) (.bool false) (.slice none 0 0) (.int .i64 0) (.int .i64 0) (.slice A6 k cap6) = WX := ⟨_, rfl⟩
      rw [hWX] at x0 x1 x2 x3 x4 x5 x6 FINB KF SF
      clear n0 n1 n2 n3 n4 n5 n6 r0 r1 r2 r3 r4 r5 r6 s0 s1 s2 s3 s4 s5 s6 z7 o7 hN hT hR hB hS hK
      unfold put7 at hWX
      try rw [hWX]
      clear hWX
      refine bodyPost_ret (v := .agg #[.int .i64 2, .int .i64 (foldZ code bytes), .bool false, (.slice none 0 0), .int .i64 0, .int .i64 0, .slice A6 k cap6]) (by simp [results, Tryd.results47, go_sem, x0, x1, x2, x3, x4, x5, x6]) rfl ?_
      rw [HKN.out] at KF
      have hl : (Tr.ownsT (chLow true bytes) kids).length = k := by rw [ownsT_len]; exact HML.out
      rw [← HDD.out]
      refine ⟨_, rfl, ?_, FINB⟩
      have := TrV.mk (kind := 2) (code := (foldZ code bytes)) (neg := false) (set := []) (lo := 0) (hi := 0) (kids := Tr.ownsT (chLow true bytes) kids) (sv := (.slice none 0 0)) (A := A6) (cap := cap6) (w := WX) (P := fun g => W.heap.size ≤ g ∧ SetB WX g) (by rw [hl]; exact hkl) SF ((KdsT.ins KF).keep' (fun g hp => ⟨by omega, hp.2⟩))
      rw [hl] at this
      exact this
end Go.Proofs.YtdfacbcenogplaaDoor

namespace Go.Proofs.YtdfacbcenogplaaDoor
open Go.RowKit Go.Lib Go.Maps

set_option maxRecDepth 100000 in
set_option maxHeartbeats 8000000 in
theorem own_1 (fold bytes : Bool) {kind code : Int} {neg : Bool} {set : List (Int × Int)} {lo hi : Int} {kids : List Tr} (IH0 : OwnKids fold bytes kids) (d : Nat) (P : Nat → Prop) (vs : Array Value) (W : World) (hsh : (Tr.mk kind code neg set lo hi kids).shape d = true) (h : TrV W P (.mk kind code neg set lo hi kids) vs) (k7z : ¬ (kind = 7 ∧ hi = 0)) (q2 : kind = 2) (qf : fold = false) :
    Calls Tryd.prog 47 #[.agg vs, .agg #[.bool fold, .bool bytes]] W (OwnOut W ((Tr.mk kind code neg set lo hi kids).ownT (chLow fold bytes))) := by
  obtain ⟨_, hen, _, _, hshk⟩ := shape_open hsh
  have HEN := Lib.hid hen
  clear hsh hen
  obtain ⟨sv, A, cap, rfl, hkl, hR, hI⟩ := h.open
  obtain ⟨A3, c3, rfl⟩ := rx_store_set hR
  have hsl : set.length ≤ 100000 := by obtain ⟨_, _, _, q, _⟩ := hR; exact q
  -- the four blocks
  have b1 := (Below.refl W.heap.size W).alloc (Nat.le_refl _) (.cells #[.int .i64 kind, .int .i64 code, .bool neg, .slice A3 set.length c3, .int .i64 lo, .int .i64 hi, .slice A kids.length cap] 58)
  have T1 := Blk.new W #[.int .i64 kind, .int .i64 code, .bool neg, .slice A3 set.length c3, .int .i64 lo, .int .i64 hi, .slice A kids.length cap] 58
  obtain ⟨W1, hW1⟩ : ∃ W1, W.alloc (.cells #[.int .i64 kind, .int .i64 code, .bool neg, .slice A3 set.length c3, .int .i64 lo, .int .i64 hi, .slice A kids.length cap] 58) = W1 := ⟨_, rfl⟩
  have hz1 : W1.heap.size = W.heap.size + 1 := by rw [← hW1]; simp
  rw [hW1] at b1 T1
  have b2 := b1.alloc b1.size (.cells #[.bool fold, .bool bytes] 28)
  have Y2 := Blk.new W1 #[.bool fold, .bool bytes] 28
  have T2 := T1.alloc (.cells #[.bool fold, .bool bytes] 28)
  obtain ⟨W2, hW2⟩ : ∃ W2, W1.alloc (.cells #[.bool fold, .bool bytes] 28) = W2 := ⟨_, rfl⟩
  have hz2 : W2.heap.size = W.heap.size + 2 := by rw [← hW2]; simp [hz1]
  rw [hW2] at b2 T2 Y2
  have b3 := b2.alloc b2.size (.cells zero7 58)
  have R3 := Blk.new W2 zero7 58
  have T3 := T2.alloc (.cells zero7 58)
  have Y3 := Y2.alloc (.cells zero7 58)
  obtain ⟨W3, hW3⟩ : ∃ W3, W2.alloc (.cells zero7 58) = W3 := ⟨_, rfl⟩
  have hz3 : W3.heap.size = W.heap.size + 3 := by rw [← hW3]; simp [hz2]
  rw [hW3] at b3 T3 Y3 R3
  have b4 := b3.alloc b3.size (.cells #[.int .i64 kind, .int .i64 0, .bool false, .slice none 0 0, .int .i64 0, .int .i64 0, .slice none 0 0] 58)
  have N4 := Blk.new W3 #[.int .i64 kind, .int .i64 0, .bool false, .slice none 0 0, .int .i64 0, .int .i64 0, .slice none 0 0] 58
  have T4 := T3.alloc (.cells #[.int .i64 kind, .int .i64 0, .bool false, .slice none 0 0, .int .i64 0, .int .i64 0, .slice none 0 0] 58)
  have Y4 := Y3.alloc (.cells #[.int .i64 kind, .int .i64 0, .bool false, .slice none 0 0, .int .i64 0, .int .i64 0, .slice none 0 0] 58)
  have R4 := R3.alloc (.cells #[.int .i64 kind, .int .i64 0, .bool false, .slice none 0 0, .int .i64 0, .int .i64 0, .slice none 0 0] 58)
  obtain ⟨W4, hW4⟩ : ∃ W4, W3.alloc (.cells #[.int .i64 kind, .int .i64 0, .bool false, .slice none 0 0, .int .i64 0, .int .i64 0, .slice none 0 0] 58) = W4 := ⟨_, rfl⟩
  have hz4 : W4.heap.size = W.heap.size + 4 := by rw [← hW4]; simp [hz3]
  rw [hW4] at b4 T4 Y4 R4 N4
  rw [hz1] at Y4
  rw [hz2] at R4
  rw [hz3] at N4
  have N5 : Blk ((((((W4.setCell ⟨W.heap.size + 3, 1, none⟩ (.int .i64 0)).setCell ⟨W.heap.size + 3, 2, none⟩ (.bool false)).setCell ⟨W.heap.size + 3, 3, none⟩ (.slice none 0 0)).setCell ⟨W.heap.size + 3, 4, none⟩ (.int .i64 0)).setCell ⟨W.heap.size + 3, 5, none⟩ (.int .i64 0)).setCell ⟨W.heap.size + 3, 6, none⟩ (.slice none 0 0)) (W.heap.size + 3) #[.int .i64 kind, .int .i64 0, .bool false, .slice none 0 0, .int .i64 0, .int .i64 0, .slice none 0 0] 58 := N4.set.set.set.set.set.set
  have O5 : Off2 (W.heap.size + 3) (W.heap.size + 3) W4 ((((((W4.setCell ⟨W.heap.size + 3, 1, none⟩ (.int .i64 0)).setCell ⟨W.heap.size + 3, 2, none⟩ (.bool false)).setCell ⟨W.heap.size + 3, 3, none⟩ (.slice none 0 0)).setCell ⟨W.heap.size + 3, 4, none⟩ (.int .i64 0)).setCell ⟨W.heap.size + 3, 5, none⟩ (.int .i64 0)).setCell ⟨W.heap.size + 3, 6, none⟩ (.slice none 0 0)) := (((((Off2.setCell W4 _ _ 1 _).trans (Off2.setCell _ _ _ 2 _)).trans (Off2.setCell _ _ _ 3 _)).trans (Off2.setCell _ _ _ 4 _)).trans (Off2.setCell _ _ _ 5 _)).trans (Off2.setCell _ _ _ 6 _)
  obtain ⟨W5, hW5⟩ : ∃ W5, ((((((W4.setCell ⟨W.heap.size + 3, 1, none⟩ (.int .i64 0)).setCell ⟨W.heap.size + 3, 2, none⟩ (.bool false)).setCell ⟨W.heap.size + 3, 3, none⟩ (.slice none 0 0)).setCell ⟨W.heap.size + 3, 4, none⟩ (.int .i64 0)).setCell ⟨W.heap.size + 3, 5, none⟩ (.int .i64 0)).setCell ⟨W.heap.size + 3, 6, none⟩ (.slice none 0 0)) = W5 := ⟨_, rfl⟩
  rw [hW5] at N5 O5
  have hz5 : W.heap.size + 4 ≤ W5.heap.size := by have := O5.size; omega
  have b5 := b4.trans (O5.below (by omega) (by omega) b4.size)
  have T5 := T4.off2 O5 (by omega) (by omega)
  have Y5 := Y4.off2 O5 (by omega) (by omega)
  have R5 := R4.off2 O5 (by omega) (by omega)
  have e3 := N4.fro 1
  have e4 := N4.cell 1
  have IH := Lib.hid (fun (t : Tr) (ht : t ∈ kids) (vs : Array Value) (w : World) (hv : TrV w (fun g => g < W.heap.size ∧ P g) t vs) => IH0 t ht (d - 1) _ vs w (shapes_mem.1 hshk t ht) hv)
  have HKI := Lib.hid (fun (w : World) (hb : Below W.heap.size W w) => Tr.Ins.keep (w' := w) (P' := fun g => g < W.heap.size ∧ P g) (fun g hg hp => ⟨⟨hg, hp⟩, hb.block g hg⟩) kids A 0 hI)
  have CC := Lib.hid (fun (w : World) (hb : Below W.heap.size W w) => rg_clone (P := P) rfl (RgIn.kept (w' := w) (P' := P) hR (fun g hg hp => ⟨hp, hb.block g hg⟩)))
  have CF := Lib.hid (fun w => fold_any code bytes w)
  have d0 : W3.cell? ⟨W.heap.size, 0, none⟩ = some (.int .i64 kind) := T3.cell 0
  obtain ⟨⟨c0, c1, c2, c3', c4, c5, c6⟩, _⟩ := T5.seven
  obtain ⟨y0, y1⟩ := Y5.two
  obtain ⟨⟨n0, n1, n2, n3, n4, n5, n6⟩, f0, f1, f2, f3, f4, f5, f6⟩ := N5.seven
  obtain ⟨_, g0, g1, g2, g3, g4, g5, g6⟩ := N4.seven
  obtain ⟨ml, hml⟩ : ∃ ml, kids.length = ml := ⟨_, rfl⟩
  obtain ⟨sl, hsl2⟩ : ∃ sl, set.length = sl := ⟨_, rfl⟩
  have HML := Lib.hid hml
  have HSL := Lib.hid hsl2
  simp only [hml, hsl2] at hW1 T5 c3' c6 CC hkl hsl ⊢
  have HT4 := Lib.hid T5
  have HY4 := Lib.hid Y5
  obtain ⟨⟨r0, r1, r2, r3, r4, r5, r6⟩, s0, s1, s2, s3, s4, s5, s6⟩ := R5.seven
  have HR4 := Lib.hid R5
  have HN4 := Lib.hid N5
  have HB4 := Lib.hid b5
  obtain ⟨D, hD⟩ : ∃ D, (Tr.mk kind code neg set lo hi kids).ownT (chLow fold bytes) = D := ⟨_, rfl⟩
  rw [hD]
  rw [Tr.ownT] at hD
  have HD := Lib.hid hD
  clear h hR hI b1 b2 b3 b4 b5 T1 T2 T3 T4 T5 Y2 Y3 Y4 Y5 R3 R4 R5 N4 N5 O5 hml hsl2 hD hshk IH0
  have HZ := Lib.hid (show RgIn W5 (fun g => W.heap.size + 4 ≤ g ∧ RgB W5 g) [] (.slice none 0 0) from RgIn.nil _ _ _ _)
  obtain ⟨i0, hi0, hz0, hz1', hz2'⟩ := info_parts info_rx
  have HI := Lib.hid (And.intro hi0 (And.intro hz0 (And.intro hz1' hz2')))
  clear hi0 hz0 hz1' hz2'
  have HD1 := Lib.hid (show Tr.mk kind (if kind = 2 then chLow fold bytes code else 0) (decide (kind = 4) && neg) (if kind = 4 then set else []) (if kind = 7 then lo else 0) (if kind = 7 then hi else 0) (Tr.ownsT (chLow fold bytes) kids) = D from (if_neg k7z).symm.trans HD.out)
  clear HD
  clear k7z
  have hne : W.heap.size ≠ W.heap.size + 3 := by omega
  have hne2 : W.heap.size + 3 ≠ W.heap.size := by omega
  have OO := Lib.hid (fun (X : World) (o : Off2 (W.heap.size + 3) (W.heap.size + 3) W5 X) => And.intro (HT4.out.off2 o (by omega) (by omega)) (And.intro (HY4.out.off2 o (by omega) (by omega)) (And.intro (HR4.out.off2 o (by omega) (by omega)) (And.intro (HB4.out.trans (o.below (by omega) (by omega) HB4.out.size)) (Nat.le_trans hz5 o.size)))))
  subst q2
  subst qf
  clear CC
  have HM0 := Lib.hid (show ml = 0 by have := HEN.out; rw [HML.out] at this; simpa [enoughB] using this)
  go_enter Tryd.func47, Tryd.ntmps47
  go_wp2_with fail
  clear hW1 hW2 hW3 hW4 hW5
  have o6 := Off2.setCell W5 (W.heap.size + 3) (W.heap.size + 3) 1 (.int .i64 code)
  have HND := Lib.hid (HN4.out.set (j := 1) (u := .int .i64 code))
  have HOF := Lib.hid (OO.out _ o6)
  have HSET := Lib.hid (HZ.out.kept (w' := (W5.setCell ⟨W.heap.size + 3, 1, none⟩ (.int .i64 code))) (P' := fun g => W.heap.size + 4 ≤ g ∧ RgB (W5.setCell ⟨W.heap.size + 3, 1, none⟩ (.int .i64 code)) g) (fun g hg hp => ⟨⟨hp.1, hp.2.kept (o6.block g hg (by omega) (by omega))⟩, o6.block g hg (by omega) (by omega)⟩))
  have HDD := Lib.hid (show Tr.mk 2 code false [] 0 0 (Tr.ownsT (chLow false bytes) kids) = D from HD1.out)
  clear o6 HD1
  obtain ⟨W6, hW6⟩ : ∃ W6, (W5.setCell ⟨W.heap.size + 3, 1, none⟩ (.int .i64 code)) = W6 := ⟨_, rfl⟩
  rw [hW6] at HND HOF HSET
  rw [hW6]
  clear hW6 OO c0 c1 c2 c3' c4 c5 c6 y0 y1 n0 n1 n2 n3 n4 n5 n6 f0 f1 f2 f3 f4 f5 f6 g0 g1 g2 g3 g4 g5 g6 d0 e3 e4 r0 r1 r2 r3 r4 r5 r6 s0 s1 s2 s3 s4 s5 s6 HZ HT4 HY4 HR4 HN4 HB4 CF 
  go_loopw [50] (fun kv wr => ∃ (k : Nat) (v6 : Value), kv = .int .i64 (k : Int) ∧ k ≤ ml ∧ Blk wr (W.heap.size + 3) #[.int .i64 2, .int .i64 code, .bool false, (.slice none 0 0), .int .i64 0, .int .i64 0, v6] 58 ∧ KdsT wr (W.heap.size + 4) v6 (Tr.ownsT (chLow false bytes) (kids.take k)) ∧
    (Blk wr W.heap.size #[.int .i64 2, .int .i64 code, .bool neg, .slice A3 sl c3, .int .i64 lo, .int .i64 hi, .slice A ml cap] 58 ∧ Blk wr (W.heap.size + 1) #[.bool false, .bool bytes] 28 ∧ Blk wr (W.heap.size + 2) zero7 58 ∧ Below W.heap.size W wr ∧ W.heap.size + 4 ≤ wr.heap.size) ∧
    RgIn wr (fun g => W.heap.size + 4 ≤ g ∧ RgB wr g) [] (.slice none 0 0)) (fun kv _ => ml - (RowKit.intOf kv).toNat)
  case atStart => exact ⟨0, _, rfl, Nat.zero_le _, HND.out, by rw [List.take_zero, Tr.ownsT]; exact KdsT.nil _ _, HOF.out, HSET.out⟩
  case round =>
    obtain ⟨k, v6, rfl, hk, hN, hK, ⟨hT, hY, hR, hB, hz⟩, hS⟩ := hrel
    have hlen : (Tr.ownsT (chLow false bytes) (kids.take k)).length = k := by
      have := HML.out
      rw [ownsT_len, List.length_take]
      omega
    obtain ⟨A6, cap6, rfl⟩ := hK.slice
    rw [hlen] at hN hK
    have HLEN := Lib.hid hlen
    clear hlen
    by_cases hlt : k < ml
    · exact absurd hlt (by have := HM0.out; omega)
    · obtain rfl : k = ml := by omega
      have hkn : kids.take k = kids := List.take_of_length_le (by rw [HML.out]; omega)
      have HF := Lib.hid (And.intro hN (And.intro hK (And.intro hT (And.intro hR (And.intro hB hS)))))
      have HKN := Lib.hid hkn
      obtain ⟨⟨n0, n1, n2, n3, n4, n5, n6⟩, _⟩ := hN.seven
      obtain ⟨⟨r0, r1, r2, r3, r4, r5, r6⟩, s0, s1, s2, s3, s4, s5, s6⟩ := hR.seven
      have HZ2 := Lib.hid hz
      clear hkn hN hK hT hY hR hB hS IH HKI hz
      go_wp2_with fail
      obtain ⟨hN, hK, hT, hR, hB, hS⟩ := HF.out
      have hz := HZ2.out
      obtain ⟨z7, o7⟩ := rx_end7 (.int .i64 2) (.int .i64 code) (.bool false) (.slice none 0 0) (.int .i64 0) (.int .i64 0) (.slice A6 k cap6) hR
      obtain ⟨⟨x0, x1, x2, x3, x4, x5, x6⟩, _⟩ := z7.seven
      have FINB := hB.trans (o7.below (by omega) (by omega) hB.size)
      have KF := KdsT.kept (w' := put7 wr (W.heap.size + 2) (.int .i64 2) (.int .i64 code) (.bool false) (.slice none 0 0) (.int .i64 0) (.int .i64 0) (.slice A6 k cap6)) hK (fun g hg hn => o7.block g hg (by omega) (by omega))
      have SF := RgIn.kept (w' := put7 wr (W.heap.size + 2) (.int .i64 2) (.int .i64 code) (.bool false) (.slice none 0 0) (.int .i64 0) (.int .i64 0) (.slice A6 k cap6)) (P' := fun g => W.heap.size ≤ g ∧ SetB (put7 wr (W.heap.size + 2) (.int .i64 2) (.int .i64 code) (.bool false) (.slice none 0 0) (.int .i64 0) (.int .i64 0) (.slice A6 k cap6)) g) hS (fun g hg hp => ⟨⟨by omega, (hp.2.kept (o7.block g hg (by omega) (by omega))).set⟩, o7.block g hg (by omega) (by omega)⟩)
      obtain ⟨WX, hWX⟩ : ∃ WX, put7 wr (W.heap.size + 2) (.int .i64 2) (.int .i64 code) (.bool false) (.slice none 0 0) (.int .i64 0) (.int .i64 0) (.slice A6 k cap6) = WX := ⟨_, rfl⟩
      rw [hWX] at x0 x1 x2 x3 x4 x5 x6 FINB KF SF
      clear n0 n1 n2 n3 n4 n5 n6 r0 r1 r2 r3 r4 r5 r6 s0 s1 s2 s3 s4 s5 s6 z7 o7 hN hT hR hB hS hK
      unfold put7 at hWX
      try rw [hWX]
      clear hWX
      refine bodyPost_ret (v := .agg #[.int .i64 2, .int .i64 code, .bool false, (.slice none 0 0), .int .i64 0, .int .i64 0, .slice A6 k cap6]) (by simp [results, Tryd.results47, go_sem, x0, x1, x2, x3, x4, x5, x6]) rfl ?_
      rw [HKN.out] at KF
      have hl : (Tr.ownsT (chLow false bytes) kids).length = k := by rw [ownsT_len]; exact HML.out
      rw [← HDD.out]
      refine ⟨_, rfl, ?_, FINB⟩
      have := TrV.mk (kind := 2) (code := code) (neg := false) (set := []) (lo := 0) (hi := 0) (kids := Tr.ownsT (chLow false bytes) kids) (sv := (.slice none 0 0)) (A := A6) (cap := cap6) (w := WX) (P := fun g => W.heap.size ≤ g ∧ SetB WX g) (by rw [hl]; exact hkl) SF ((KdsT.ins KF).keep' (fun g hp => ⟨by omega, hp.2⟩))
      rw [hl] at this
      exact this
end Go.Proofs.YtdfacbcenogplaaDoor

namespace Go.Proofs.YtdfacbcenogplaaDoor
open Go.RowKit Go.Lib Go.Maps

set_option maxRecDepth 100000 in
set_option maxHeartbeats 8000000 in
theorem own_2 (fold bytes : Bool) {kind code : Int} {neg : Bool} {set : List (Int × Int)} {lo hi : Int} {kids : List Tr} (IH0 : OwnKids fold bytes kids) (d : Nat) (P : Nat → Prop) (vs : Array Value) (W : World) (hsh : (Tr.mk kind code neg set lo hi kids).shape d = true) (h : TrV W P (.mk kind code neg set lo hi kids) vs) (k7z : ¬ (kind = 7 ∧ hi = 0)) (q2 : kind = 4) :
    Calls Tryd.prog 47 #[.agg vs, .agg #[.bool fold, .bool bytes]] W (OwnOut W ((Tr.mk kind code neg set lo hi kids).ownT (chLow fold bytes))) := by
  obtain ⟨_, hen, _, _, hshk⟩ := shape_open hsh
  have HEN := Lib.hid hen
  clear hsh hen
  obtain ⟨sv, A, cap, rfl, hkl, hR, hI⟩ := h.open
  obtain ⟨A3, c3, rfl⟩ := rx_store_set hR
  have hsl : set.length ≤ 100000 := by obtain ⟨_, _, _, q, _⟩ := hR; exact q
  -- the four blocks
  have b1 := (Below.refl W.heap.size W).alloc (Nat.le_refl _) (.cells #[.int .i64 kind, .int .i64 code, .bool neg, .slice A3 set.length c3, .int .i64 lo, .int .i64 hi, .slice A kids.length cap] 58)
  have T1 := Blk.new W #[.int .i64 kind, .int .i64 code, .bool neg, .slice A3 set.length c3, .int .i64 lo, .int .i64 hi, .slice A kids.length cap] 58
  obtain ⟨W1, hW1⟩ : ∃ W1, W.alloc (.cells #[.int .i64 kind, .int .i64 code, .bool neg, .slice A3 set.length c3, .int .i64 lo, .int .i64 hi, .slice A kids.length cap] 58) = W1 := ⟨_, rfl⟩
  have hz1 : W1.heap.size = W.heap.size + 1 := by rw [← hW1]; simp
  rw [hW1] at b1 T1
  have b2 := b1.alloc b1.size (.cells #[.bool fold, .bool bytes] 28)
  have Y2 := Blk.new W1 #[.bool fold, .bool bytes] 28
  have T2 := T1.alloc (.cells #[.bool fold, .bool bytes] 28)
  obtain ⟨W2, hW2⟩ : ∃ W2, W1.alloc (.cells #[.bool fold, .bool bytes] 28) = W2 := ⟨_, rfl⟩
  have hz2 : W2.heap.size = W.heap.size + 2 := by rw [← hW2]; simp [hz1]
  rw [hW2] at b2 T2 Y2
  have b3 := b2.alloc b2.size (.cells zero7 58)
  have R3 := Blk.new W2 zero7 58
  have T3 := T2.alloc (.cells zero7 58)
  have Y3 := Y2.alloc (.cells zero7 58)
  obtain ⟨W3, hW3⟩ : ∃ W3, W2.alloc (.cells zero7 58) = W3 := ⟨_, rfl⟩
  have hz3 : W3.heap.size = W.heap.size + 3 := by rw [← hW3]; simp [hz2]
  rw [hW3] at b3 T3 Y3 R3
  have b4 := b3.alloc b3.size (.cells #[.int .i64 kind, .int .i64 0, .bool false, .slice none 0 0, .int .i64 0, .int .i64 0, .slice none 0 0] 58)
  have N4 := Blk.new W3 #[.int .i64 kind, .int .i64 0, .bool false, .slice none 0 0, .int .i64 0, .int .i64 0, .slice none 0 0] 58
  have T4 := T3.alloc (.cells #[.int .i64 kind, .int .i64 0, .bool false, .slice none 0 0, .int .i64 0, .int .i64 0, .slice none 0 0] 58)
  have Y4 := Y3.alloc (.cells #[.int .i64 kind, .int .i64 0, .bool false, .slice none 0 0, .int .i64 0, .int .i64 0, .slice none 0 0] 58)
  have R4 := R3.alloc (.cells #[.int .i64 kind, .int .i64 0, .bool false, .slice none 0 0, .int .i64 0, .int .i64 0, .slice none 0 0] 58)
  obtain ⟨W4, hW4⟩ : ∃ W4, W3.alloc (.cells #[.int .i64 kind, .int .i64 0, .bool false, .slice none 0 0, .int .i64 0, .int .i64 0, .slice none 0 0] 58) = W4 := ⟨_, rfl⟩
  have hz4 : W4.heap.size = W.heap.size + 4 := by rw [← hW4]; simp [hz3]
  rw [hW4] at b4 T4 Y4 R4 N4
  rw [hz1] at Y4
  rw [hz2] at R4
  rw [hz3] at N4
  have N5 : Blk ((((((W4.setCell ⟨W.heap.size + 3, 1, none⟩ (.int .i64 0)).setCell ⟨W.heap.size + 3, 2, none⟩ (.bool false)).setCell ⟨W.heap.size + 3, 3, none⟩ (.slice none 0 0)).setCell ⟨W.heap.size + 3, 4, none⟩ (.int .i64 0)).setCell ⟨W.heap.size + 3, 5, none⟩ (.int .i64 0)).setCell ⟨W.heap.size + 3, 6, none⟩ (.slice none 0 0)) (W.heap.size + 3) #[.int .i64 kind, .int .i64 0, .bool false, .slice none 0 0, .int .i64 0, .int .i64 0, .slice none 0 0] 58 := N4.set.set.set.set.set.set
  have O5 : Off2 (W.heap.size + 3) (W.heap.size + 3) W4 ((((((W4.setCell ⟨W.heap.size + 3, 1, none⟩ (.int .i64 0)).setCell ⟨W.heap.size + 3, 2, none⟩ (.bool false)).setCell ⟨W.heap.size + 3, 3, none⟩ (.slice none 0 0)).setCell ⟨W.heap.size + 3, 4, none⟩ (.int .i64 0)).setCell ⟨W.heap.size + 3, 5, none⟩ (.int .i64 0)).setCell ⟨W.heap.size + 3, 6, none⟩ (.slice none 0 0)) := (((((Off2.setCell W4 _ _ 1 _).trans (Off2.setCell _ _ _ 2 _)).trans (Off2.setCell _ _ _ 3 _)).trans (Off2.setCell _ _ _ 4 _)).trans (Off2.setCell _ _ _ 5 _)).trans (Off2.setCell _ _ _ 6 _)
  obtain ⟨W5, hW5⟩ : ∃ W5, ((((((W4.setCell ⟨W.heap.size + 3, 1, none⟩ (.int .i64 0)).setCell ⟨W.heap.size + 3, 2, none⟩ (.bool false)).setCell ⟨W.heap.size + 3, 3, none⟩ (.slice none 0 0)).setCell ⟨W.heap.size + 3, 4, none⟩ (.int .i64 0)).setCell ⟨W.heap.size + 3, 5, none⟩ (.int .i64 0)).setCell ⟨W.heap.size + 3, 6, none⟩ (.slice none 0 0)) = W5 := ⟨_, rfl⟩
  rw [hW5] at N5 O5
  have hz5 : W.heap.size + 4 ≤ W5.heap.size := by have := O5.size; omega
  have b5 := b4.trans (O5.below (by omega) (by omega) b4.size)
  have T5 := T4.off2 O5 (by omega) (by omega)
  have Y5 := Y4.off2 O5 (by omega) (by omega)
  have R5 := R4.off2 O5 (by omega) (by omega)
  have e3 := N4.fro 1
  have e4 := N4.cell 1
  have IH := Lib.hid (fun (t : Tr) (ht : t ∈ kids) (vs : Array Value) (w : World) (hv : TrV w (fun g => g < W.heap.size ∧ P g) t vs) => IH0 t ht (d - 1) _ vs w (shapes_mem.1 hshk t ht) hv)
  have HKI := Lib.hid (fun (w : World) (hb : Below W.heap.size W w) => Tr.Ins.keep (w' := w) (P' := fun g => g < W.heap.size ∧ P g) (fun g hg hp => ⟨⟨hg, hp⟩, hb.block g hg⟩) kids A 0 hI)
  have CC := Lib.hid (fun (w : World) (hb : Below W.heap.size W w) => rg_clone (P := P) rfl (RgIn.kept (w' := w) (P' := P) hR (fun g hg hp => ⟨hp, hb.block g hg⟩)))
  have CF := Lib.hid (fun w => fold_any code bytes w)
  have d0 : W3.cell? ⟨W.heap.size, 0, none⟩ = some (.int .i64 kind) := T3.cell 0
  obtain ⟨⟨c0, c1, c2, c3', c4, c5, c6⟩, _⟩ := T5.seven
  obtain ⟨y0, y1⟩ := Y5.two
  obtain ⟨⟨n0, n1, n2, n3, n4, n5, n6⟩, f0, f1, f2, f3, f4, f5, f6⟩ := N5.seven
  obtain ⟨_, g0, g1, g2, g3, g4, g5, g6⟩ := N4.seven
  obtain ⟨ml, hml⟩ : ∃ ml, kids.length = ml := ⟨_, rfl⟩
  obtain ⟨sl, hsl2⟩ : ∃ sl, set.length = sl := ⟨_, rfl⟩
  have HML := Lib.hid hml
  have HSL := Lib.hid hsl2
  simp only [hml, hsl2] at hW1 T5 c3' c6 CC hkl hsl ⊢
  have HT4 := Lib.hid T5
  have HY4 := Lib.hid Y5
  obtain ⟨⟨r0, r1, r2, r3, r4, r5, r6⟩, s0, s1, s2, s3, s4, s5, s6⟩ := R5.seven
  have HR4 := Lib.hid R5
  have HN4 := Lib.hid N5
  have HB4 := Lib.hid b5
  obtain ⟨D, hD⟩ : ∃ D, (Tr.mk kind code neg set lo hi kids).ownT (chLow fold bytes) = D := ⟨_, rfl⟩
  rw [hD]
  rw [Tr.ownT] at hD
  have HD := Lib.hid hD
  clear h hR hI b1 b2 b3 b4 b5 T1 T2 T3 T4 T5 Y2 Y3 Y4 Y5 R3 R4 R5 N4 N5 O5 hml hsl2 hD hshk IH0
  have HZ := Lib.hid (show RgIn W5 (fun g => W.heap.size + 4 ≤ g ∧ RgB W5 g) [] (.slice none 0 0) from RgIn.nil _ _ _ _)
  obtain ⟨i0, hi0, hz0, hz1', hz2'⟩ := info_parts info_rx
  have HI := Lib.hid (And.intro hi0 (And.intro hz0 (And.intro hz1' hz2')))
  clear hi0 hz0 hz1' hz2'
  have HD1 := Lib.hid (show Tr.mk kind (if kind = 2 then chLow fold bytes code else 0) (decide (kind = 4) && neg) (if kind = 4 then set else []) (if kind = 7 then lo else 0) (if kind = 7 then hi else 0) (Tr.ownsT (chLow fold bytes) kids) = D from (if_neg k7z).symm.trans HD.out)
  clear HD
  clear k7z
  have hne : W.heap.size ≠ W.heap.size + 3 := by omega
  have hne2 : W.heap.size + 3 ≠ W.heap.size := by omega
  have OO := Lib.hid (fun (X : World) (o : Off2 (W.heap.size + 3) (W.heap.size + 3) W5 X) => And.intro (HT4.out.off2 o (by omega) (by omega)) (And.intro (HY4.out.off2 o (by omega) (by omega)) (And.intro (HR4.out.off2 o (by omega) (by omega)) (And.intro (HB4.out.trans (o.below (by omega) (by omega) HB4.out.size)) (Nat.le_trans hz5 o.size)))))
  subst q2
  have HM0 := Lib.hid (show ml = 0 by have := HEN.out; rw [HML.out] at this; simpa [enoughB] using this)
  go_enter Tryd.func47, Tryd.ntmps47
  go_wp2_with fail
  clear hW1 hW2 hW3 hW4 hW5
  have KP := Lib.hid (fun (X : World) (hb : Below W5.heap.size W5 X) => show (fun w' => (w'.cell? ⟨W.heap.size, 2, none⟩ = some (.bool neg) ∧ w'.cell? ⟨W.heap.size, 3, none⟩ = some (.slice A3 sl c3))) X ∧ (X.cell? ⟨W.heap.size + 3, 2, none⟩ = some (.bool false) ∧ X.cell? ⟨W.heap.size + 3, 3, none⟩ = some (.slice none 0 0) ∧ X.frozen? ⟨W.heap.size + 3, 2, none⟩ = false ∧ X.frozen? ⟨W.heap.size + 3, 3, none⟩ = false) from ⟨⟨(HT4.out.below hb HT4.out.lt).cell 2, (HT4.out.below hb HT4.out.lt).cell 3⟩, (HN4.out.below hb HN4.out.lt).cell 2, (HN4.out.below hb HN4.out.lt).cell 3, (HN4.out.below hb HN4.out.lt).fro 2, (HN4.out.below hb HN4.out.lt).fro 3⟩)
  have S0 := (KP.out W5.drew (below_drew' _ _)).1
  have HTX := Lib.hid (fun (X : World) (o : Off2 (W.heap.size + 3) (W.heap.size + 3) W5 X) => show (fun w' => (w'.cell? ⟨W.heap.size, 2, none⟩ = some (.bool neg) ∧ w'.cell? ⟨W.heap.size, 3, none⟩ = some (.slice A3 sl c3))) X from ⟨(HT4.out.off2 o hne hne).cell 2, (HT4.out.off2 o hne hne).cell 3⟩)
  clear c0 c1 c4 c5 c6 y0 y1 n0 n1 n2 n3 n4 n5 n6 f0 f1 f2 f3 f4 f5 f6 g0 g1 g2 g3 g4 g5 g6 d0 e3 e4 r0 r1 r2 r3 r4 r5 r6 s0 s1 s2 s3 s4 s5 s6
  go_region_held3 (fun w' => (w'.cell? ⟨W.heap.size, 2, none⟩ = some (.bool neg) ∧ w'.cell? ⟨W.heap.size, 3, none⟩ = some (.slice A3 sl c3))) (first | (with_reducible exact S3) | (with_reducible exact S2) | (with_reducible exact S1) | (with_reducible exact S0) | go_keep)
    (first
    | (go_at_call 85; (with_reducible refine (CC.out _ (HB4.out.trans (below_drew' _ _))).mono ?_); rintro e w7 ⟨B3, d3, rfl, hR7, hb7⟩; have hb7' : Below W5.heap.size W5 w7 := (below_drew' _ _).trans hb7; obtain ⟨S1, n2, n3, f2, f3⟩ := KP.out w7 hb7'; have o7 : Off2 (W.heap.size + 3) (W.heap.size + 3) W5 w7 := Off2.of_below hb7'; have S2 := HTX.out _ (o7.trans (Off2.setCell w7 (W.heap.size + 3) (W.heap.size + 3) 2 (.bool neg))); have S3 := HTX.out _ (o7.trans ((Off2.setCell w7 (W.heap.size + 3) (W.heap.size + 3) 2 (.bool neg)).trans (Off2.setCell _ (W.heap.size + 3) (W.heap.size + 3) 3 (.slice B3 sl d3)))); have HR7 := Lib.hid (And.intro hR7 (And.intro hb7' o7)); clear hR7 hb7 hb7' o7)
    | fail)
  have o6 := HR7.out.2.2.trans ((Off2.setCell w7 (W.heap.size + 3) (W.heap.size + 3) 2 (.bool neg)).trans (Off2.setCell _ (W.heap.size + 3) (W.heap.size + 3) 3 (.slice B3 sl d3)))
  have HND := Lib.hid (((HN4.out.below HR7.out.2.1 HN4.out.lt).set (j := 2) (u := .bool neg)).set (j := 3) (u := .slice B3 sl d3))
  have HOF := Lib.hid (OO.out _ o6)
  have hW5d : W5.drew.heap.size = W5.heap.size := rfl
  have HSET := Lib.hid (HR7.out.1.kept (w' := ((w7.setCell ⟨W.heap.size + 3, 2, none⟩ (.bool neg)).setCell ⟨W.heap.size + 3, 3, none⟩ (.slice B3 sl d3))) (P' := fun g => W.heap.size + 4 ≤ g ∧ RgB ((w7.setCell ⟨W.heap.size + 3, 2, none⟩ (.bool neg)).setCell ⟨W.heap.size + 3, 3, none⟩ (.slice B3 sl d3)) g) (fun g hg hp => by
    have h1 : W5.drew.heap.size ≤ g := hp.1
    have h2 : ((w7.setCell ⟨W.heap.size + 3, 2, none⟩ (.bool neg)).setCell ⟨W.heap.size + 3, 3, none⟩ (.slice B3 sl d3)).heap[g]? = w7.heap[g]? := ((Off2.setCell w7 (W.heap.size + 3) (W.heap.size + 3) 2 (.bool neg)).trans (Off2.setCell _ (W.heap.size + 3) (W.heap.size + 3) 3 (.slice B3 sl d3))).block g hg (by omega) (by omega)
    exact ⟨⟨by omega, hp.2.kept h2⟩, h2⟩))
  have HDD := Lib.hid (show Tr.mk 4 0 neg set 0 0 (Tr.ownsT (chLow fold bytes) kids) = D from HD1.out)
  clear o6 HD1 hW5d
  obtain ⟨W6, hW6⟩ : ∃ W6, ((w7.setCell ⟨W.heap.size + 3, 2, none⟩ (.bool neg)).setCell ⟨W.heap.size + 3, 3, none⟩ (.slice B3 sl d3)) = W6 := ⟨_, rfl⟩
  rw [hW6] at HND HOF HSET
  rw [hW6]
  clear hW6 OO S0 S1 S2 S3 n2 n3 f2 f3 c2 c3' HZ HR7 KP HTX HT4 HY4 HR4 HN4 HB4 CF 
  have t6 := HOF.out.1.cell 6
  simp only [List.getElem?_toArray, List.getElem?_cons_succ, List.getElem?_cons_zero] at t6
  go_wp2_with fail
  clear t6
  go_loopw [50] (fun kv wr => ∃ (k : Nat) (v6 : Value), kv = .int .i64 (k : Int) ∧ k ≤ ml ∧ Blk wr (W.heap.size + 3) #[.int .i64 4, .int .i64 0, .bool neg, (.slice B3 sl d3), .int .i64 0, .int .i64 0, v6] 58 ∧ KdsT wr (W.heap.size + 4) v6 (Tr.ownsT (chLow fold bytes) (kids.take k)) ∧
    (Blk wr W.heap.size #[.int .i64 4, .int .i64 code, .bool neg, .slice A3 sl c3, .int .i64 lo, .int .i64 hi, .slice A ml cap] 58 ∧ Blk wr (W.heap.size + 1) #[.bool fold, .bool bytes] 28 ∧ Blk wr (W.heap.size + 2) zero7 58 ∧ Below W.heap.size W wr ∧ W.heap.size + 4 ≤ wr.heap.size) ∧
    RgIn wr (fun g => W.heap.size + 4 ≤ g ∧ RgB wr g) set (.slice B3 sl d3)) (fun kv _ => ml - (RowKit.intOf kv).toNat)
  case atStart => exact ⟨0, _, rfl, Nat.zero_le _, HND.out, by rw [List.take_zero, Tr.ownsT]; exact KdsT.nil _ _, HOF.out, HSET.out⟩
  case round =>
    obtain ⟨k, v6, rfl, hk, hN, hK, ⟨hT, hY, hR, hB, hz⟩, hS⟩ := hrel
    have hlen : (Tr.ownsT (chLow fold bytes) (kids.take k)).length = k := by
      have := HML.out
      rw [ownsT_len, List.length_take]
      omega
    obtain ⟨A6, cap6, rfl⟩ := hK.slice
    rw [hlen] at hN hK
    have HLEN := Lib.hid hlen
    clear hlen
    by_cases hlt : k < ml
    · exact absurd hlt (by have := HM0.out; omega)
    · obtain rfl : k = ml := by omega
      have hkn : kids.take k = kids := List.take_of_length_le (by rw [HML.out]; omega)
      have HF := Lib.hid (And.intro hN (And.intro hK (And.intro hT (And.intro hR (And.intro hB hS)))))
      have HKN := Lib.hid hkn
      obtain ⟨⟨n0, n1, n2, n3, n4, n5, n6⟩, _⟩ := hN.seven
      obtain ⟨⟨r0, r1, r2, r3, r4, r5, r6⟩, s0, s1, s2, s3, s4, s5, s6⟩ := hR.seven
      have HZ2 := Lib.hid hz
      clear hkn hN hK hT hY hR hB hS IH HKI hz
      go_wp2_with fail
      obtain ⟨hN, hK, hT, hR, hB, hS⟩ := HF.out
      have hz := HZ2.out
      obtain ⟨z7, o7⟩ := rx_end7 (.int .i64 4) (.int .i64 0) (.bool neg) (.slice B3 sl d3) (.int .i64 0) (.int .i64 0) (.slice A6 k cap6) hR
      obtain ⟨⟨x0, x1, x2, x3, x4, x5, x6⟩, _⟩ := z7.seven
      have FINB := hB.trans (o7.below (by omega) (by omega) hB.size)
      have KF := KdsT.kept (w' := put7 wr (W.heap.size + 2) (.int .i64 4) (.int .i64 0) (.bool neg) (.slice B3 sl d3) (.int .i64 0) (.int .i64 0) (.slice A6 k cap6)) hK (fun g hg hn => o7.block g hg (by omega) (by omega))
      have SF := RgIn.kept (w' := put7 wr (W.heap.size + 2) (.int .i64 4) (.int .i64 0) (.bool neg) (.slice B3 sl d3) (.int .i64 0) (.int .i64 0) (.slice A6 k cap6)) (P' := fun g => W.heap.size ≤ g ∧ SetB (put7 wr (W.heap.size + 2) (.int .i64 4) (.int .i64 0) (.bool neg) (.slice B3 sl d3) (.int .i64 0) (.int .i64 0) (.slice A6 k cap6)) g) hS (fun g hg hp => ⟨⟨by omega, (hp.2.kept (o7.block g hg (by omega) (by omega))).set⟩, o7.block g hg (by omega) (by omega)⟩)
      obtain ⟨WX, hWX⟩ : ∃ WX, put7 wr (W.heap.size + 2) (.int .i64 4) (.int .i64 0) (.bool neg) (.slice B3 sl d3) (.int .i64 0) (.int .i64 0) (.slice A6 k cap6) = WX := ⟨_, rfl⟩
      rw [hWX] at x0 x1 x2 x3 x4 x5 x6 FINB KF SF
      clear n0 n1 n2 n3 n4 n5 n6 r0 r1 r2 r3 r4 r5 r6 s0 s1 s2 s3 s4 s5 s6 z7 o7 hN hT hR hB hS hK
      unfold put7 at hWX
      try rw [hWX]
      clear hWX
      refine bodyPost_ret (v := .agg #[.int .i64 4, .int .i64 0, .bool neg, (.slice B3 sl d3), .int .i64 0, .int .i64 0, .slice A6 k cap6]) (by simp [results, Tryd.results47, go_sem, x0, x1, x2, x3, x4, x5, x6]) rfl ?_
      rw [HKN.out] at KF
      have hl : (Tr.ownsT (chLow fold bytes) kids).length = k := by rw [ownsT_len]; exact HML.out
      rw [← HDD.out]
      refine ⟨_, rfl, ?_, FINB⟩
      have := TrV.mk (kind := 4) (code := 0) (neg := neg) (set := set) (lo := 0) (hi := 0) (kids := Tr.ownsT (chLow fold bytes) kids) (sv := (.slice B3 sl d3)) (A := A6) (cap := cap6) (w := WX) (P := fun g => W.heap.size ≤ g ∧ SetB WX g) (by rw [hl]; exact hkl) SF ((KdsT.ins KF).keep' (fun g hp => ⟨by omega, hp.2⟩))
      rw [hl] at this
      exact this
end Go.Proofs.YtdfacbcenogplaaDoor

namespace Go.Proofs.YtdfacbcenogplaaDoor
open Go.RowKit Go.Lib Go.Maps

set_option maxRecDepth 100000 in
set_option maxHeartbeats 8000000 in
theorem own_3 (fold bytes : Bool) {kind code : Int} {neg : Bool} {set : List (Int × Int)} {lo hi : Int} {kids : List Tr} (IH0 : OwnKids fold bytes kids) (d : Nat) (P : Nat → Prop) (vs : Array Value) (W : World) (hsh : (Tr.mk kind code neg set lo hi kids).shape d = true) (h : TrV W P (.mk kind code neg set lo hi kids) vs) (k7z : ¬ (kind = 7 ∧ hi = 0)) (q2 : kind = 7) (q0 : hi ≠ 0) :
    Calls Tryd.prog 47 #[.agg vs, .agg #[.bool fold, .bool bytes]] W (OwnOut W ((Tr.mk kind code neg set lo hi kids).ownT (chLow fold bytes))) := by
  obtain ⟨_, hen, _, _, hshk⟩ := shape_open hsh
  have HEN := Lib.hid hen
  clear hsh hen
  obtain ⟨sv, A, cap, rfl, hkl, hR, hI⟩ := h.open
  obtain ⟨A3, c3, rfl⟩ := rx_store_set hR
  have hsl : set.length ≤ 100000 := by obtain ⟨_, _, _, q, _⟩ := hR; exact q
  -- the four blocks
  have b1 := (Below.refl W.heap.size W).alloc (Nat.le_refl _) (.cells #[.int .i64 kind, .int .i64 code, .bool neg, .slice A3 set.length c3, .int .i64 lo, .int .i64 hi, .slice A kids.length cap] 58)
  have T1 := Blk.new W #[.int .i64 kind, .int .i64 code, .bool neg, .slice A3 set.length c3, .int .i64 lo, .int .i64 hi, .slice A kids.length cap] 58
  obtain ⟨W1, hW1⟩ : ∃ W1, W.alloc (.cells #[.int .i64 kind, .int .i64 code, .bool neg, .slice A3 set.length c3, .int .i64 lo, .int .i64 hi, .slice A kids.length cap] 58) = W1 := ⟨_, rfl⟩
  have hz1 : W1.heap.size = W.heap.size + 1 := by rw [← hW1]; simp
  rw [hW1] at b1 T1
  have b2 := b1.alloc b1.size (.cells #[.bool fold, .bool bytes] 28)
  have Y2 := Blk.new W1 #[.bool fold, .bool bytes] 28
  have T2 := T1.alloc (.cells #[.bool fold, .bool bytes] 28)
  obtain ⟨W2, hW2⟩ : ∃ W2, W1.alloc (.cells #[.bool fold, .bool bytes] 28) = W2 := ⟨_, rfl⟩
  have hz2 : W2.heap.size = W.heap.size + 2 := by rw [← hW2]; simp [hz1]
  rw [hW2] at b2 T2 Y2
  have b3 := b2.alloc b2.size (.cells zero7 58)
  have R3 := Blk.new W2 zero7 58
  have T3 := T2.alloc (.cells zero7 58)
  have Y3 := Y2.alloc (.cells zero7 58)
  obtain ⟨W3, hW3⟩ : ∃ W3, W2.alloc (.cells zero7 58) = W3 := ⟨_, rfl⟩
  have hz3 : W3.heap.size = W.heap.size + 3 := by rw [← hW3]; simp [hz2]
  rw [hW3] at b3 T3 Y3 R3
  have b4 := b3.alloc b3.size (.cells #[.int .i64 kind, .int .i64 0, .bool false, .slice none 0 0, .int .i64 0, .int .i64 0, .slice none 0 0] 58)
  have N4 := Blk.new W3 #[.int .i64 kind, .int .i64 0, .bool false, .slice none 0 0, .int .i64 0, .int .i64 0, .slice none 0 0] 58
  have T4 := T3.alloc (.cells #[.int .i64 kind, .int .i64 0, .bool false, .slice none 0 0, .int .i64 0, .int .i64 0, .slice none 0 0] 58)
  have Y4 := Y3.alloc (.cells #[.int .i64 kind, .int .i64 0, .bool false, .slice none 0 0, .int .i64 0, .int .i64 0, .slice none 0 0] 58)
  have R4 := R3.alloc (.cells #[.int .i64 kind, .int .i64 0, .bool false, .slice none 0 0, .int .i64 0, .int .i64 0, .slice none 0 0] 58)
  obtain ⟨W4, hW4⟩ : ∃ W4, W3.alloc (.cells #[.int .i64 kind, .int .i64 0, .bool false, .slice none 0 0, .int .i64 0, .int .i64 0, .slice none 0 0] 58) = W4 := ⟨_, rfl⟩
  have hz4 : W4.heap.size = W.heap.size + 4 := by rw [← hW4]; simp [hz3]
  rw [hW4] at b4 T4 Y4 R4 N4
  rw [hz1] at Y4
  rw [hz2] at R4
  rw [hz3] at N4
  have N5 : Blk ((((((W4.setCell ⟨W.heap.size + 3, 1, none⟩ (.int .i64 0)).setCell ⟨W.heap.size + 3, 2, none⟩ (.bool false)).setCell ⟨W.heap.size + 3, 3, none⟩ (.slice none 0 0)).setCell ⟨W.heap.size + 3, 4, none⟩ (.int .i64 0)).setCell ⟨W.heap.size + 3, 5, none⟩ (.int .i64 0)).setCell ⟨W.heap.size + 3, 6, none⟩ (.slice none 0 0)) (W.heap.size + 3) #[.int .i64 kind, .int .i64 0, .bool false, .slice none 0 0, .int .i64 0, .int .i64 0, .slice none 0 0] 58 := N4.set.set.set.set.set.set
  have O5 : Off2 (W.heap.size + 3) (W.heap.size + 3) W4 ((((((W4.setCell ⟨W.heap.size + 3, 1, none⟩ (.int .i64 0)).setCell ⟨W.heap.size + 3, 2, none⟩ (.bool false)).setCell ⟨W.heap.size + 3, 3, none⟩ (.slice none 0 0)).setCell ⟨W.heap.size + 3, 4, none⟩ (.int .i64 0)).setCell ⟨W.heap.size + 3, 5, none⟩ (.int .i64 0)).setCell ⟨W.heap.size + 3, 6, none⟩ (.slice none 0 0)) := (((((Off2.setCell W4 _ _ 1 _).trans (Off2.setCell _ _ _ 2 _)).trans (Off2.setCell _ _ _ 3 _)).trans (Off2.setCell _ _ _ 4 _)).trans (Off2.setCell _ _ _ 5 _)).trans (Off2.setCell _ _ _ 6 _)
  obtain ⟨W5, hW5⟩ : ∃ W5, ((((((W4.setCell ⟨W.heap.size + 3, 1, none⟩ (.int .i64 0)).setCell ⟨W.heap.size + 3, 2, none⟩ (.bool false)).setCell ⟨W.heap.size + 3, 3, none⟩ (.slice none 0 0)).setCell ⟨W.heap.size + 3, 4, none⟩ (.int .i64 0)).setCell ⟨W.heap.size + 3, 5, none⟩ (.int .i64 0)).setCell ⟨W.heap.size + 3, 6, none⟩ (.slice none 0 0)) = W5 := ⟨_, rfl⟩
  rw [hW5] at N5 O5
  have hz5 : W.heap.size + 4 ≤ W5.heap.size := by have := O5.size; omega
  have b5 := b4.trans (O5.below (by omega) (by omega) b4.size)
  have T5 := T4.off2 O5 (by omega) (by omega)
  have Y5 := Y4.off2 O5 (by omega) (by omega)
  have R5 := R4.off2 O5 (by omega) (by omega)
  have e3 := N4.fro 1
  have e4 := N4.cell 1
  have IH := Lib.hid (fun (t : Tr) (ht : t ∈ kids) (vs : Array Value) (w : World) (hv : TrV w (fun g => g < W.heap.size ∧ P g) t vs) => IH0 t ht (d - 1) _ vs w (shapes_mem.1 hshk t ht) hv)
  have HKI := Lib.hid (fun (w : World) (hb : Below W.heap.size W w) => Tr.Ins.keep (w' := w) (P' := fun g => g < W.heap.size ∧ P g) (fun g hg hp => ⟨⟨hg, hp⟩, hb.block g hg⟩) kids A 0 hI)
  have CC := Lib.hid (fun (w : World) (hb : Below W.heap.size W w) => rg_clone (P := P) rfl (RgIn.kept (w' := w) (P' := P) hR (fun g hg hp => ⟨hp, hb.block g hg⟩)))
  have CF := Lib.hid (fun w => fold_any code bytes w)
  have d0 : W3.cell? ⟨W.heap.size, 0, none⟩ = some (.int .i64 kind) := T3.cell 0
  obtain ⟨⟨c0, c1, c2, c3', c4, c5, c6⟩, _⟩ := T5.seven
  obtain ⟨y0, y1⟩ := Y5.two
  obtain ⟨⟨n0, n1, n2, n3, n4, n5, n6⟩, f0, f1, f2, f3, f4, f5, f6⟩ := N5.seven
  obtain ⟨_, g0, g1, g2, g3, g4, g5, g6⟩ := N4.seven
  obtain ⟨ml, hml⟩ : ∃ ml, kids.length = ml := ⟨_, rfl⟩
  obtain ⟨sl, hsl2⟩ : ∃ sl, set.length = sl := ⟨_, rfl⟩
  have HML := Lib.hid hml
  have HSL := Lib.hid hsl2
  simp only [hml, hsl2] at hW1 T5 c3' c6 CC hkl hsl ⊢
  have HT4 := Lib.hid T5
  have HY4 := Lib.hid Y5
  obtain ⟨⟨r0, r1, r2, r3, r4, r5, r6⟩, s0, s1, s2, s3, s4, s5, s6⟩ := R5.seven
  have HR4 := Lib.hid R5
  have HN4 := Lib.hid N5
  have HB4 := Lib.hid b5
  obtain ⟨D, hD⟩ : ∃ D, (Tr.mk kind code neg set lo hi kids).ownT (chLow fold bytes) = D := ⟨_, rfl⟩
  rw [hD]
  rw [Tr.ownT] at hD
  have HD := Lib.hid hD
  clear h hR hI b1 b2 b3 b4 b5 T1 T2 T3 T4 T5 Y2 Y3 Y4 Y5 R3 R4 R5 N4 N5 O5 hml hsl2 hD hshk IH0
  have HZ := Lib.hid (show RgIn W5 (fun g => W.heap.size + 4 ≤ g ∧ RgB W5 g) [] (.slice none 0 0) from RgIn.nil _ _ _ _)
  obtain ⟨i0, hi0, hz0, hz1', hz2'⟩ := info_parts info_rx
  have HI := Lib.hid (And.intro hi0 (And.intro hz0 (And.intro hz1' hz2')))
  clear hi0 hz0 hz1' hz2'
  have HD1 := Lib.hid (show Tr.mk kind (if kind = 2 then chLow fold bytes code else 0) (decide (kind = 4) && neg) (if kind = 4 then set else []) (if kind = 7 then lo else 0) (if kind = 7 then hi else 0) (Tr.ownsT (chLow fold bytes) kids) = D from (if_neg k7z).symm.trans HD.out)
  clear HD
  clear k7z
  have hne : W.heap.size ≠ W.heap.size + 3 := by omega
  have hne2 : W.heap.size + 3 ≠ W.heap.size := by omega
  have OO := Lib.hid (fun (X : World) (o : Off2 (W.heap.size + 3) (W.heap.size + 3) W5 X) => And.intro (HT4.out.off2 o (by omega) (by omega)) (And.intro (HY4.out.off2 o (by omega) (by omega)) (And.intro (HR4.out.off2 o (by omega) (by omega)) (And.intro (HB4.out.trans (o.below (by omega) (by omega) HB4.out.size)) (Nat.le_trans hz5 o.size)))))
  subst q2
  clear CC
  have hib : (hi == 0) = false := by rw [beq_eq_false_iff_ne]; exact q0
  have HQ0 := Lib.hid q0
  clear q0
  go_enter Tryd.func47, Tryd.ntmps47
  go_wp2_with fail
  clear hW1 hW2 hW3 hW4 hW5
  go_region
  have o6 := (Off2.setCell W5 (W.heap.size + 3) (W.heap.size + 3) 4 (.int .i64 lo)).trans (Off2.setCell _ (W.heap.size + 3) (W.heap.size + 3) 5 (.int .i64 hi))
  have HND := Lib.hid ((HN4.out.set (j := 4) (u := .int .i64 lo)).set (j := 5) (u := .int .i64 hi))
  have HOF := Lib.hid (OO.out _ o6)
  have HSET := Lib.hid (HZ.out.kept (w' := ((W5.setCell ⟨W.heap.size + 3, 4, none⟩ (.int .i64 lo)).setCell ⟨W.heap.size + 3, 5, none⟩ (.int .i64 hi))) (P' := fun g => W.heap.size + 4 ≤ g ∧ RgB ((W5.setCell ⟨W.heap.size + 3, 4, none⟩ (.int .i64 lo)).setCell ⟨W.heap.size + 3, 5, none⟩ (.int .i64 hi)) g) (fun g hg hp => ⟨⟨hp.1, hp.2.kept (o6.block g hg (by omega) (by omega))⟩, o6.block g hg (by omega) (by omega)⟩))
  have HDD := Lib.hid (show Tr.mk 7 0 false [] lo hi (Tr.ownsT (chLow fold bytes) kids) = D from HD1.out)
  clear o6 HD1
  obtain ⟨W6, hW6⟩ : ∃ W6, ((W5.setCell ⟨W.heap.size + 3, 4, none⟩ (.int .i64 lo)).setCell ⟨W.heap.size + 3, 5, none⟩ (.int .i64 hi)) = W6 := ⟨_, rfl⟩
  rw [hW6] at HND HOF HSET
  rw [hW6]
  clear hW6 OO c0 c1 c2 c3' c4 c5 c6 y0 y1 n0 n1 n2 n3 n4 n5 n6 f0 f1 f2 f3 f4 f5 f6 g0 g1 g2 g3 g4 g5 g6 d0 e3 e4 r0 r1 r2 r3 r4 r5 r6 s0 s1 s2 s3 s4 s5 s6 HZ HT4 HY4 HR4 HN4 HB4 CF 
  have t5 := HOF.out.1.cell 5
  have t6 := HOF.out.1.cell 6
  simp only [List.getElem?_toArray, List.getElem?_cons_succ, List.getElem?_cons_zero] at t5 t6
  go_wp2_with fail
  clear t5 t6
  have HND := Lib.hid (Blk.drew' HND.out)
  have HOF := Lib.hid (And.intro (Blk.drew' HOF.out.1) (And.intro (Blk.drew' HOF.out.2.1) (And.intro (Blk.drew' HOF.out.2.2.1) (And.intro (HOF.out.2.2.2.1.trans (below_drew' _ _)) (show W.heap.size + 4 ≤ W6.drew.heap.size from HOF.out.2.2.2.2)))))
  have HSET := Lib.hid (RgIn.nil W6.drew (fun g => W.heap.size + 4 ≤ g ∧ RgB W6.drew g) none 0)
  obtain ⟨W7, hW7⟩ : ∃ W7, W6.drew = W7 := ⟨_, rfl⟩
  rw [hW7] at HND HOF HSET ⊢
  clear hW7
  go_loopw [50] (fun kv wr => ∃ (k : Nat) (v6 : Value), kv = .int .i64 (k : Int) ∧ k ≤ ml ∧ Blk wr (W.heap.size + 3) #[.int .i64 7, .int .i64 0, .bool false, (.slice none 0 0), .int .i64 lo, .int .i64 hi, v6] 58 ∧ KdsT wr (W.heap.size + 4) v6 (Tr.ownsT (chLow fold bytes) (kids.take k)) ∧
    (Blk wr W.heap.size #[.int .i64 7, .int .i64 code, .bool neg, .slice A3 sl c3, .int .i64 lo, .int .i64 hi, .slice A ml cap] 58 ∧ Blk wr (W.heap.size + 1) #[.bool fold, .bool bytes] 28 ∧ Blk wr (W.heap.size + 2) zero7 58 ∧ Below W.heap.size W wr ∧ W.heap.size + 4 ≤ wr.heap.size) ∧
    RgIn wr (fun g => W.heap.size + 4 ≤ g ∧ RgB wr g) [] (.slice none 0 0)) (fun kv _ => ml - (RowKit.intOf kv).toNat)
  case atStart => exact ⟨0, _, rfl, Nat.zero_le _, HND.out, by rw [List.take_zero, Tr.ownsT]; exact KdsT.nil _ _, HOF.out, HSET.out⟩
  case round =>
    obtain ⟨k, v6, rfl, hk, hN, hK, ⟨hT, hY, hR, hB, hz⟩, hS⟩ := hrel
    have hlen : (Tr.ownsT (chLow fold bytes) (kids.take k)).length = k := by
      have := HML.out
      rw [ownsT_len, List.length_take]
      omega
    obtain ⟨A6, cap6, rfl⟩ := hK.slice
    rw [hlen] at hN hK
    have HLEN := Lib.hid hlen
    clear hlen
    by_cases hlt : k < ml
    · have hkl2 : k < kids.length := by rw [HML.out]; exact hlt
      obtain ⟨t, ht⟩ : ∃ t, kids[k] = t := ⟨_, rfl⟩
      have hmem : t ∈ kids := by rw [← ht]; exact List.getElem_mem hkl2
      obtain ⟨k1, hk1⟩ : ∃ k1, k + 1 = k1 := ⟨_, rfl⟩
      have HTK := Lib.hid (show Tr.ownsT (chLow fold bytes) (kids.take k1) = Tr.ownsT (chLow fold bytes) (kids.take k) ++ [t.ownT (chLow fold bytes)] by rw [← hk1, List.take_succ_eq_append_getElem hkl2, ht, ownsT_app, Tr.ownsT, Tr.ownsT])
      obtain ⟨g, kind1, code1, neg1, A31, n31, c31, lo1, hi1, A21, n21, c21, hA, ⟨u0, u1, u2, u3, u4, u5, u6⟩, hT1⟩ := TrV.at (HKI.out wr hB) k t (by rw [List.getElem?_eq_getElem hkl2, ht])
      subst hA
      obtain ⟨xs, ho, hx⟩ := hK
      rw [HLEN.out] at ho
      have HO := Lib.hid (And.intro ho hx)
      have HVB := Lib.hid (show ∀ q, (Value.slice A6 k cap6).ownBlock = some q → W.heap.size + 4 ≤ q ∧ q < wr.heap.size from fun q hq => by
        rcases ho.2 with ⟨e, _⟩ | ⟨g', cap', cur, e, hg', hr', _⟩
        · rw [e] at hq; cases hq
        · rw [e] at hq
          cases hq
          exact ⟨hg', (Array.getElem?_eq_some_iff.1 hr').1⟩)
      have HENT := Lib.hid (enters_of Tryd.func47 (by kernel_rfl) rfl)
      have hkb : wr.heap.size ≠ W.heap.size + 3 := by omega
      have CO := Lib.hid (fun (X : World) (hb : Below wr.heap.size wr X) => IH.out t hmem _ X (hT1.kept (P' := fun g => g < W.heap.size ∧ P g) (fun g hg hp => ⟨hp, hb.block g hg⟩)))
      have bX0 := (Below.refl wr.heap.size wr).alloc (Nat.le_refl _) (.cells #[.int .i64 kind1, .int .i64 code1, .bool neg1, .slice A31 n31 c31, .int .i64 lo1, .int .i64 hi1, .slice A21 n21 c21] 58)
      have K0 := Blk.new wr #[.int .i64 kind1, .int .i64 code1, .bool neg1, .slice A31 n31 c31, .int .i64 lo1, .int .i64 hi1, .slice A21 n21 c21] 58
      obtain ⟨X0, hX0⟩ : ∃ X0, wr.alloc (.cells #[.int .i64 kind1, .int .i64 code1, .bool neg1, .slice A31 n31 c31, .int .i64 lo1, .int .i64 hi1, .slice A21 n21 c21] 58) = X0 := ⟨_, rfl⟩
      have hz0 : X0.heap.size = wr.heap.size + 1 := by rw [← hX0]; simp
      rw [hX0] at bX0 K0
      have N0 := hN.below bX0 hN.lt
      have Y0 := hY.below bX0 hY.lt
      have HALL := Lib.hid (And.intro hT (And.intro hR (And.intro hB (And.intro hS (And.intro N0 (And.intro Y0 K0))))))
      have KP := Lib.hid (fun (X : World) (hb : Below X0.heap.size X0 X) => show (X.cell? ⟨W.heap.size + 3, 6, none⟩ = some (.slice A6 k cap6) ∧ X.frozen? ⟨W.heap.size + 3, 6, none⟩ = false) ∧ ((X.cell? ⟨wr.heap.size, 0, none⟩ = some (.int .i64 kind1) ∧ X.cell? ⟨wr.heap.size, 1, none⟩ = some (.int .i64 code1) ∧ X.cell? ⟨wr.heap.size, 2, none⟩ = some (.bool neg1) ∧ X.cell? ⟨wr.heap.size, 3, none⟩ = some (.slice A31 n31 c31) ∧ X.cell? ⟨wr.heap.size, 4, none⟩ = some (.int .i64 lo1) ∧ X.cell? ⟨wr.heap.size, 5, none⟩ = some (.int .i64 hi1) ∧ X.cell? ⟨wr.heap.size, 6, none⟩ = some (.slice A21 n21 c21)) ∧ X.cell? ⟨W.heap.size + 1, 0, none⟩ = some (.bool fold) ∧ X.cell? ⟨W.heap.size + 1, 1, none⟩ = some (.bool bytes)) from ⟨⟨(N0.below hb N0.lt).cell 6, (N0.below hb N0.lt).fro 6⟩, (K0.below hb K0.lt).seven.1, (Y0.below hb Y0.lt).two⟩)
      have KA := Lib.hid (fun (X : World) (hb : Below X0.heap.size X0 X) (o : Obj) => show ((X.alloc o).cell? ⟨W.heap.size + 3, 6, none⟩ = some (.slice A6 k cap6) ∧ (X.alloc o).frozen? ⟨W.heap.size + 3, 6, none⟩ = false) ∧ (fun w' => ((w'.cell? ⟨wr.heap.size, 0, none⟩ = some (.int .i64 kind1) ∧ w'.cell? ⟨wr.heap.size, 1, none⟩ = some (.int .i64 code1) ∧ w'.cell? ⟨wr.heap.size, 2, none⟩ = some (.bool neg1) ∧ w'.cell? ⟨wr.heap.size, 3, none⟩ = some (.slice A31 n31 c31) ∧ w'.cell? ⟨wr.heap.size, 4, none⟩ = some (.int .i64 lo1) ∧ w'.cell? ⟨wr.heap.size, 5, none⟩ = some (.int .i64 hi1) ∧ w'.cell? ⟨wr.heap.size, 6, none⟩ = some (.slice A21 n21 c21)) ∧ w'.cell? ⟨W.heap.size + 1, 0, none⟩ = some (.bool fold) ∧ w'.cell? ⟨W.heap.size + 1, 1, none⟩ = some (.bool bytes))) (X.alloc o) from ⟨⟨((N0.below hb N0.lt).alloc o).cell 6, ((N0.below hb N0.lt).alloc o).fro 6⟩, ((K0.below hb K0.lt).alloc o).seven.1, ((Y0.below hb Y0.lt).alloc o).two⟩)
      obtain ⟨⟨a6, b6⟩, ⟨q0, q1, q2, q3, q4, q5, q6⟩, p0, p1⟩ := KP.out X0 (Below.refl _ _)
      obtain ⟨⟨ad6, bd6⟩, SD⟩ := KP.out X0.drew (below_drew' _ _)
      have HBX := Lib.hid bX0
      have OW := Lib.hid (fun (X1 : World) (hb : Below wr.heap.size wr X1) (e0 e1 : Int) (e2 : Bool) (E3 : Option Addr) (m3 d3 : Nat) (e4 e5 : Int) (E6 : Option Addr) (m6 d6 : Nat) => run_append_own_at (P := Tryd.prog) (X1.alloc (.cells #[.int .i64 e0, .int .i64 e1, .bool e2, .slice E3 m3 d3, .int .i64 e4, .int .i64 e5, .slice E6 m6 d6] 58)) (W.heap.size + 4) 56 56 58 i0 _ 7 88 Tryd.underlying56 HI.out.1 HI.out.2.1 HI.out.2.2.1 HI.out.2.2.2 rfl (by decide) (.slice A6 k cap6) k xs ((own_bel ho hb).alloc _) ⟨X1.heap.size, 0, none⟩ 1 1 [.int .i64 e0, .int .i64 e1, .bool e2, .slice E3 m3 d3, .int .i64 e4, .int .i64 e5, .slice E6 m6 d6] rfl (rx_row_new X1 #[.int .i64 e0, .int .i64 e1, .bool e2, .slice E3 m3 d3, .int .i64 e4, .int .i64 e5, .slice E6 m6 d6] 58) (by simp [Value.oneCell']) (by unfold maxLen; omega) (by omega) (by have := hb.size; simp; omega))
      have hw2 : IntKind.i64.wrap ((k : Int) + 1) = (k1 : Int) := by simp [IntKind.wrap, IntKind.bits, IntKind.signed]; omega
      have HK1 := Lib.hid hk1
      have FINAL := Lib.hid (show ∀ (X1 : World) (e0 e1 : Int) (e2 : Bool) (E3 : Option Addr) (m3 d3 : Nat) (e4 e5 : Int) (E6 : Option Addr) (m6 d6 : Nat) (A7 : Option Addr) (c7 : Nat) (w4 : World), TrV X1 (fun g => X0.drew.heap.size ≤ g ∧ SetB X1 g) (t.ownT (chLow fold bytes)) #[.int .i64 e0, .int .i64 e1, .bool e2, .slice E3 m3 d3, .int .i64 e4, .int .i64 e5, .slice E6 m6 d6] → Below X0.heap.size X0 X1 →
          w4.ownsRow (W.heap.size + 4) 58 7 (.slice A7 (k + 1) c7) (k + 1) (xs ++ [.int .i64 e0, .int .i64 e1, .bool e2, .slice E3 m3 d3, .int .i64 e4, .int .i64 e5, .slice E6 m6 d6]) → (X1.alloc (.cells #[.int .i64 e0, .int .i64 e1, .bool e2, .slice E3 m3 d3, .int .i64 e4, .int .i64 e5, .slice E6 m6 d6] 58)).grownBy w4 (Value.slice A6 k cap6).ownBlock → ((Value.slice A7 (k + 1) c7).ownBlock = (Value.slice A6 k cap6).ownBlock ∨ (Value.slice A7 (k + 1) c7).ownBlock = some (X1.alloc (.cells #[.int .i64 e0, .int .i64 e1, .bool e2, .slice E3 m3 d3, .int .i64 e4, .int .i64 e5, .slice E6 m6 d6] 58)).heap.size) →
          Blk (w4.setCell ⟨W.heap.size + 3, 6, none⟩ (.slice A7 (k + 1) c7)) (W.heap.size + 3) #[.int .i64 7, .int .i64 0, .bool false, (.slice none 0 0), .int .i64 lo, .int .i64 hi, .slice A7 (k + 1) c7] 58 ∧ KdsT (w4.setCell ⟨W.heap.size + 3, 6, none⟩ (.slice A7 (k + 1) c7)) (W.heap.size + 4) (.slice A7 (k + 1) c7) (Tr.ownsT (chLow fold bytes) (kids.take k1)) ∧
          (Blk (w4.setCell ⟨W.heap.size + 3, 6, none⟩ (.slice A7 (k + 1) c7)) W.heap.size #[.int .i64 7, .int .i64 code, .bool neg, .slice A3 sl c3, .int .i64 lo, .int .i64 hi, .slice (some ⟨g, 0, none⟩) ml cap] 58 ∧ Blk (w4.setCell ⟨W.heap.size + 3, 6, none⟩ (.slice A7 (k + 1) c7)) (W.heap.size + 1) #[.bool fold, .bool bytes] 28 ∧ Blk (w4.setCell ⟨W.heap.size + 3, 6, none⟩ (.slice A7 (k + 1) c7)) (W.heap.size + 2) zero7 58 ∧ Below W.heap.size W (w4.setCell ⟨W.heap.size + 3, 6, none⟩ (.slice A7 (k + 1) c7)) ∧ W.heap.size + 4 ≤ (w4.setCell ⟨W.heap.size + 3, 6, none⟩ (.slice A7 (k + 1) c7)).heap.size) ∧
          RgIn (w4.setCell ⟨W.heap.size + 3, 6, none⟩ (.slice A7 (k + 1) c7)) (fun g => W.heap.size + 4 ≤ g ∧ RgB (w4.setCell ⟨W.heap.size + 3, 6, none⟩ (.slice A7 (k + 1) c7)) g) [] (.slice none 0 0) from by
        intro X1 e0 e1 e2 E3 m3 d3 e4 e5 E6 m6 d6 A7 c7 w4 hT1 hb1' ho2 hgr hvv
        obtain ⟨hT, hR, hB, hS, N0, Y0, K0⟩ := HALL.out
        have HNX := Lib.hid (fun (cs : Array Value) (g : Nat) (t : TypeId) (hb : Blk X0 g cs t) (hg : g < W.heap.size + 4 ∨ g = wr.heap.size) => Blk.grown ((hb.below hb1' hb.lt).alloc (.cells #[.int .i64 e0, .int .i64 e1, .bool e2, .slice E3 m3 d3, .int .i64 e4, .int .i64 e5, .slice E6 m6 d6] 58)) hgr (fun q => by have := HVB.out g q.symm; omega))
        have hbX := HBX.out.trans (hb1'.mono (by omega))
        obtain ⟨ho1, hx1⟩ := kds_move HO.out.1 HO.out.2 hbX
        have hz1' := Below.size hb1'
        have K4 := KdsT.snoc (w := X1) (X := X1.alloc (.cells #[.int .i64 e0, .int .i64 e1, .bool e2, .slice E3 m3 d3, .int .i64 e4, .int .i64 e5, .slice E6 m6 d6] 58)) (m := X0.heap.size) (ts := Tr.ownsT (chLow fold bytes) (kids.take k)) (by rw [HLEN.out]; exact ho1) hx1 hT1 (fun q hq => by have := HVB.out q hq; omega) (by omega) ((Below.refl X1.heap.size X1).alloc (Nat.le_refl _) _) (by rw [HLEN.out]; exact ho2) hgr (by rw [World.size_alloc]; rw [World.size_alloc] at hvv; exact hvv)
        have hset : ∀ g, g ≠ W.heap.size + 3 → (w4.setCell ⟨W.heap.size + 3, 6, none⟩ (.slice A7 (k + 1) c7)).heap[g]? = w4.heap[g]? := fun g hg => Below.heap_setCell w4 ⟨W.heap.size + 3, 6, none⟩ _ g hg
        have K5 := KdsT.kept (w' := w4.setCell ⟨W.heap.size + 3, 6, none⟩ (.slice A7 (k + 1) c7)) K4 (fun g _ hn => hset g (by omega))
        rw [← HTK.out] at K5
        have hgw : W.heap.size ≤ X1.heap.size := by omega
        have B4 : Below W.heap.size W w4 := ((hB.trans (hbX.mono (by omega))).alloc hgw (.cells #[.int .i64 e0, .int .i64 e1, .bool e2, .slice E3 m3 d3, .int .i64 e4, .int .i64 e5, .slice E6 m6 d6] 58)).grown hgr (by simp; omega) (fun q hq => by have := HVB.out q hq; omega)
        have B5 : Below W.heap.size W (w4.setCell ⟨W.heap.size + 3, 6, none⟩ (.slice A7 (k + 1) c7)) := B4.setCell (p := ⟨W.heap.size + 3, 6, none⟩) (by show W.heap.size ≤ W.heap.size + 3; omega) (.slice A7 (k + 1) c7)
        have N5 := (HNX.out _ _ _ N0 (.inl (by omega))).set (j := 6) (u := (.slice A7 (k + 1) c7))
        have T5 := (HNX.out _ _ _ (hT.below HBX.out hT.lt) (.inl (by omega))).other (g' := W.heap.size + 3) (j := 6) (u := (.slice A7 (k + 1) c7)) (by omega)
        have Y5 := (HNX.out _ _ _ Y0 (.inl (by omega))).other (g' := W.heap.size + 3) (j := 6) (u := (.slice A7 (k + 1) c7)) (by omega)
        have R5 := (HNX.out _ _ _ (hR.below HBX.out hR.lt) (.inl (by omega))).other (g' := W.heap.size + 3) (j := 6) (u := (.slice A7 (k + 1) c7)) (by omega)
        have hgz := hgr.size
        have S5 := RgIn.kept (w' := w4.setCell ⟨W.heap.size + 3, 6, none⟩ (.slice A7 (k + 1) c7)) (P' := fun g => W.heap.size + 4 ≤ g ∧ RgB (w4.setCell ⟨W.heap.size + 3, 6, none⟩ (.slice A7 (k + 1) c7)) g) hS (fun g hg hp => by
          have h1 := hbX.block g hg
          have h2 : (X1.alloc (.cells #[.int .i64 e0, .int .i64 e1, .bool e2, .slice E3 m3 d3, .int .i64 e4, .int .i64 e5, .slice E6 m6 d6] 58)).heap[g]? = X1.heap[g]? := Below.heap_alloc X1 _ g (by omega)
          have h3 := hgr.block g (by simp; omega) (rg_not_own HO.out.1 hp.2)
          have h4 := hset g (by omega)
          have h5 := h4.trans (h3.trans (h2.trans h1))
          exact ⟨⟨hp.1, hp.2.kept h5⟩, h5⟩)
        have hz5' : W.heap.size + 4 ≤ (w4.setCell ⟨W.heap.size + 3, 6, none⟩ (.slice A7 (k + 1) c7)).heap.size := by
          have := S5
          have h6 : w4.heap.size ≤ (w4.setCell ⟨W.heap.size + 3, 6, none⟩ (.slice A7 (k + 1) c7)).heap.size := ((Below.refl 0 w4).setCell (p := ⟨W.heap.size + 3, 6, none⟩) (Nat.zero_le _) (.slice A7 (k + 1) c7)).size
          simp at hgz
          omega
        exact ⟨N5, K5, ⟨T5, Y5, R5, B5, hz5'⟩, S5⟩)
      obtain ⟨⟨sq0, sq1, sq2, sq3, sq4, sq5, sq6⟩, sp0, sp1⟩ := SD
      clear ht hmem hkl2 hT1 hN hY hT hR hB hS N0 Y0 K0 bX0 ho hx hk1 IH HKI
      have hz0' := Nat.le_of_eq hz0
      have hz0'' := Nat.le_of_eq hz0.symm
      clear hz0
      go_wp2_with fail
      clear hX0
      go_region_law (first
        | (refine step_call_nfa rfl 47 HENT.out (.tmp 56) (.tmp 57) 58 28 rfl (.agg #[.int .i64 kind1, .int .i64 code1, .bool neg1, .slice A31 n31 c31, .int .i64 lo1, .int .i64 hi1, .slice A21 n21 c21]) (by simp [Act.eval]) (.agg #[.bool fold, .bool bytes]) (by simp [Act.eval]) ((CO.out _ (HBX.out.trans (below_drew' _ _))).mono ?_); rintro e X1 ⟨us, rfl, hT1, hb1⟩; refine ⟨_, rfl, ?_⟩; obtain ⟨e0, e1, e2, E3, m3, d3, e4, e5, E6, m6, d6, rfl⟩ := hT1.form; have hb1' : Below X0.heap.size X0 X1 := (below_drew' _ _).trans hb1; obtain ⟨⟨a16, b16⟩, _⟩ := KP.out X1 hb1'; obtain ⟨⟨a26, b26⟩, _⟩ := KA.out X1 hb1' (.cells #[.int .i64 e0, .int .i64 e1, .bool e2, .slice E3 m3 d3, .int .i64 e4, .int .i64 e5, .slice E6 m6 d6] 58); have HX1 := Lib.hid (And.intro hT1 hb1'); clear hT1 hb1 hb1')
        | (obtain ⟨v', w4, hr, ho2, hgr, _, hvv⟩ := OW.out X1 (HBX.out.trans (HX1.out.2.mono (by omega))) e0 e1 e2 E3 m3 d3 e4 e5 E6 m6 d6; obtain ⟨A7, c7, rfl⟩ := own_slice ho2; have HG := Lib.hid (And.intro ho2 (And.intro hgr hvv)); have NB := Blk.grown ((HALL.out.2.2.2.2.1.below HX1.out.2 HALL.out.2.2.2.2.1.lt).alloc (.cells #[.int .i64 e0, .int .i64 e1, .bool e2, .slice E3 m3 d3, .int .i64 e4, .int .i64 e5, .slice E6 m6 d6] 58)) hgr (fun q => by have := HVB.out _ q.symm; omega); have a7 : w4.cell? ⟨W.heap.size + 3, 6, none⟩ = some (.slice A6 k cap6) := NB.cell 6; have b7 : w4.frozen? ⟨W.heap.size + 3, 6, none⟩ = false := NB.fro 6; clear ho2 hgr hvv NB; refine step_append_nfa rfl (.tmp 55) (.tmp 59) 56 56 rfl (.slice A6 k cap6) (by simp [Act.eval]) (.slice (some ⟨X1.heap.size, 0, none⟩) 1 1) (by simp [Act.eval]) (.slice A7 (k + 1) c7) w4 hr ?_)
        | fail)
      all_goals
        go_wp2_with fail
        refine ⟨⟨k1, .slice A7 (k + 1) c7, rfl, by have := HK1.out; omega, FINAL.out X1 _ _ _ _ _ _ _ _ _ _ _ _ _ _ HX1.out.1 HX1.out.2 HG.out.1 HG.out.2.1 HG.out.2.2⟩, ?_⟩
        have := HK1.out
        simp [RowKit.intOf]
        omega
    · obtain rfl : k = ml := by omega
      have hkn : kids.take k = kids := List.take_of_length_le (by rw [HML.out]; omega)
      have HF := Lib.hid (And.intro hN (And.intro hK (And.intro hT (And.intro hR (And.intro hB hS)))))
      have HKN := Lib.hid hkn
      obtain ⟨⟨n0, n1, n2, n3, n4, n5, n6⟩, _⟩ := hN.seven
      obtain ⟨⟨r0, r1, r2, r3, r4, r5, r6⟩, s0, s1, s2, s3, s4, s5, s6⟩ := hR.seven
      have HZ2 := Lib.hid hz
      clear hkn hN hK hT hY hR hB hS IH HKI hz
      go_wp2_with fail
      obtain ⟨hN, hK, hT, hR, hB, hS⟩ := HF.out
      have hz := HZ2.out
      obtain ⟨z7, o7⟩ := rx_end7 (.int .i64 7) (.int .i64 0) (.bool false) (.slice none 0 0) (.int .i64 lo) (.int .i64 hi) (.slice A6 k cap6) hR
      obtain ⟨⟨x0, x1, x2, x3, x4, x5, x6⟩, _⟩ := z7.seven
      have FINB := hB.trans (o7.below (by omega) (by omega) hB.size)
      have KF := KdsT.kept (w' := put7 wr (W.heap.size + 2) (.int .i64 7) (.int .i64 0) (.bool false) (.slice none 0 0) (.int .i64 lo) (.int .i64 hi) (.slice A6 k cap6)) hK (fun g hg hn => o7.block g hg (by omega) (by omega))
      have SF := RgIn.kept (w' := put7 wr (W.heap.size + 2) (.int .i64 7) (.int .i64 0) (.bool false) (.slice none 0 0) (.int .i64 lo) (.int .i64 hi) (.slice A6 k cap6)) (P' := fun g => W.heap.size ≤ g ∧ SetB (put7 wr (W.heap.size + 2) (.int .i64 7) (.int .i64 0) (.bool false) (.slice none 0 0) (.int .i64 lo) (.int .i64 hi) (.slice A6 k cap6)) g) hS (fun g hg hp => ⟨⟨by omega, (hp.2.kept (o7.block g hg (by omega) (by omega))).set⟩, o7.block g hg (by omega) (by omega)⟩)
      obtain ⟨WX, hWX⟩ : ∃ WX, put7 wr (W.heap.size + 2) (.int .i64 7) (.int .i64 0) (.bool false) (.slice none 0 0) (.int .i64 lo) (.int .i64 hi) (.slice A6 k cap6) = WX := ⟨_, rfl⟩
      rw [hWX] at x0 x1 x2 x3 x4 x5 x6 FINB KF SF
      clear n0 n1 n2 n3 n4 n5 n6 r0 r1 r2 r3 r4 r5 r6 s0 s1 s2 s3 s4 s5 s6 z7 o7 hN hT hR hB hS hK
      unfold put7 at hWX
      try rw [hWX]
      clear hWX
      refine bodyPost_ret (v := .agg #[.int .i64 7, .int .i64 0, .bool false, (.slice none 0 0), .int .i64 lo, .int .i64 hi, .slice A6 k cap6]) (by simp [results, Tryd.results47, go_sem, x0, x1, x2, x3, x4, x5, x6]) rfl ?_
      rw [HKN.out] at KF
      have hl : (Tr.ownsT (chLow fold bytes) kids).length = k := by rw [ownsT_len]; exact HML.out
      rw [← HDD.out]
      refine ⟨_, rfl, ?_, FINB⟩
      have := TrV.mk (kind := 7) (code := 0) (neg := false) (set := []) (lo := lo) (hi := hi) (kids := Tr.ownsT (chLow fold bytes) kids) (sv := (.slice none 0 0)) (A := A6) (cap := cap6) (w := WX) (P := fun g => W.heap.size ≤ g ∧ SetB WX g) (by rw [hl]; exact hkl) SF ((KdsT.ins KF).keep' (fun g hp => ⟨by omega, hp.2⟩))
      rw [hl] at this
      exact this
end Go.Proofs.YtdfacbcenogplaaDoor
