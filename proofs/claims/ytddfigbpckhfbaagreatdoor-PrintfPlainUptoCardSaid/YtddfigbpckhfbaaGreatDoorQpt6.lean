/- Several texts in one (Contracts of layer 4: cutNumeral; Contracts of layer 4: blanks ahead of a number; Contracts of layer 4: a numeral with blanks and a sign ahead; Contracts of layer 4: the float nearest to a numeral; Plain: of more than 768 digits it only counts whether the rest is nought. No walk here; Contracts of layer 4: the float nearest to a numeral of more than 1022 digits; Contracts of layer 4: Prefix and Looks; Contracts of layer 4: Trunc). -/
import Derived.Shelf.Strings.SlTrimAscii
import Derived.Test.YtddfigbpckhfbaaGreatDoorQpt5
namespace Go.Proofs.YtddfigbpckhfbaaGreatDoor
open Go.RowKit Go.Lib

/-- A block of a numeral's five cells that is there. -/
structure Five (W : World) (g : Nat) (cs : Array Value) (t : TypeId) : Prop where
  row : W.heap[g]? = some (.cells cs t (0, 0))
theorem Five.lt {W : World} {g : Nat} {cs : Array Value} {t : TypeId} (h : Five W g cs t) : g < W.heap.size := (Array.getElem?_eq_some_iff.1 h.row).1
theorem Five.cell {W : World} {g : Nat} {cs : Array Value} {t : TypeId} (h : Five W g cs t) (j : Nat) : W.cell? ⟨g, j, none⟩ = cs[j]? := cell_of_row W _ j _ _ _ h.row
theorem Five.fro {W : World} {g : Nat} {cs : Array Value} {t : TypeId} (h : Five W g cs t) (j : Nat) : W.frozen? ⟨g, j, none⟩ = false := frozen_of_row W _ j _ _ h.row
theorem Five.below {W W' : World} {g : Nat} {cs : Array Value} {t : TypeId} (h : Five W g cs t) (hb : Below W.heap.size W W') : Five W' g cs t := ⟨(hb.block g h.lt).trans h.row⟩
theorem Five.new (w : World) (cs : Array Value) (t : TypeId) : Five (w.alloc (.cells cs t)) w.heap.size cs t := ⟨heap_alloc_new w _⟩
theorem Five.alloc {W : World} {g : Nat} {cs : Array Value} {t : TypeId} (h : Five W g cs t) (o : Obj) : Five (W.alloc o) g cs t := ⟨(Below.heap_alloc W o g h.lt).trans h.row⟩
theorem Five.set {W : World} {g j : Nat} {cs : Array Value} {t : TypeId} {u : Value} (h : Five W g cs t) : Five (W.setCell ⟨g, j, none⟩ u) g (cs.setIfInBounds j u) t := by
  exact ⟨heap_setCell_same W g j cs t u h.row⟩
theorem Five.other {W : World} {g g' j : Nat} {cs : Array Value} {t : TypeId} {u : Value} (h : Five W g cs t) (hne : g ≠ g') : Five (W.setCell ⟨g', j, none⟩ u) g cs t := by
  refine ⟨?_⟩
  rw [Below.heap_setCell W ⟨g', j, none⟩ u g hne]
  exact h.row
theorem Five.all {W : World} {g : Nat} {a b c d e : Value} {t : TypeId} (h : Five W g #[a, b, c, d, e] t) : W.cell? ⟨g, 0, none⟩ = some a ∧ W.cell? ⟨g, 1, none⟩ = some b ∧ W.cell? ⟨g, 2, none⟩ = some c ∧ W.cell? ⟨g, 3, none⟩ = some d ∧ W.cell? ⟨g, 4, none⟩ = some e ∧ W.frozen? ⟨g, 0, none⟩ = false ∧ W.frozen? ⟨g, 1, none⟩ = false ∧ W.frozen? ⟨g, 2, none⟩ = false ∧ W.frozen? ⟨g, 3, none⟩ = false ∧ W.frozen? ⟨g, 4, none⟩ = false :=
  ⟨h.cell 0, h.cell 1, h.cell 2, h.cell 3, h.cell 4, h.fro 0, h.fro 1, h.fro 2, h.fro 3, h.fro 4⟩
/-- A numeral's pieces that a text begins with: the digits ahead of the point, those behind it, what stands behind both. -/
def numP (l : List UInt8) : List UInt8 × List UInt8 × List UInt8 :=
  match l.dropWhile isD with
  | 46 :: r => (l.takeWhile isD, r.takeWhile isD, r.dropWhile isD)
  | r => (l.takeWhile isD, [], r)
theorem numP_point {l r : List UInt8} (h : l.dropWhile isD = 46 :: r) : numP l = (l.takeWhile isD, r.takeWhile isD, r.dropWhile isD) := by unfold numP; rw [h]; rfl
theorem numP_none {l : List UInt8} (h : (l.dropWhile isD).head? ≠ some 46) : numP l = (l.takeWhile isD, [], l.dropWhile isD) := by
  unfold numP
  split
  · rename_i r e; rw [e] at h; exact absurd rfl h
  · rfl
/-- The numeral: its digits ahead of the point and behind it, its exponent, its bytes. -/
def numL (l : List UInt8) : List UInt8 × List UInt8 × Int × Int :=
  if (numP l).1 = [] ∧ (numP l).2.1 = [] then ([], [], 0, 0)
  else ((numP l).1, (numP l).2.1, (expL (numP l).2.2).1, (l.length : Int) - ((expL (numP l).2.2).2.length : Int))
theorem numL_no {l : List UInt8} (h : (numP l).1 = [] ∧ (numP l).2.1 = []) : numL l = ([], [], 0, 0) := if_pos h
theorem numL_yes {l : List UInt8} (h : ¬ ((numP l).1 = [] ∧ (numP l).2.1 = [])) : numL l = ((numP l).1, (numP l).2.1, (expL (numP l).2.2).1, (l.length : Int) - ((expL (numP l).2.2).2.length : Int)) := if_neg h
def numV (b : Bool) (x : List UInt8 × List UInt8 × Int × Int) : Value := .agg #[.bool b, .string ⟨x.1.toArray⟩, .string ⟨x.2.1.toArray⟩, .int .i64 x.2.2.1, .int .i64 x.2.2.2]
def NumEnd (w : World) (x : List UInt8 × List UInt8 × Int × Int) (e : Ending) (w' : World) : Prop := e = .returned (numV false x) ∧ Below w.heap.size w w'
theorem expL_bd (l : List UInt8) : -1099511627776 ≤ (expL l).1 ∧ (expL l).1 ≤ 100000 ∧ (expL l).2.length ≤ l.length := by
  unfold expL
  split
  · exact ⟨by decide, by decide, by simp⟩
  · rename_i c t
    split
    · split
      · exact ⟨by simp, by simp, by simp⟩
      · have h1 : ∀ d b, cntZ d b ≤ b := fun d b => Nat.min_le_right _ _
        have a := h1 ((sgnL t).2.takeWhile isD) 1099511627776
        have b := h1 ((sgnL t).2.takeWhile isD) 100000
        have c := (List.dropWhile_suffix (l := (sgnL t).2) isD).length_le
        have d := sgnL_len t
        simp only [List.length_cons]
        split <;> refine ⟨by omega, by omega, by omega⟩
    · exact ⟨by simp, by simp, by simp⟩
set_option maxRecDepth 100000 in
set_option maxHeartbeats 4000000 in
theorem cutNumeral_point_no (s : ByteArray) (w : World) (hs : s.size ≤ 4611686018427387904) (r : List UInt8) (hr : s.data.toList.dropWhile isD = 46 :: r) (hz : (numP s.data.toList).1 = [] ∧ (numP s.data.toList).2.1 = []) :
    Calls Tryz.prog 74 #[.string s] w (NumEnd w (numL s.data.toList)) := by
  obtain ⟨l, hl⟩ : ∃ l, s.data.toList = l := ⟨_, rfl⟩
  have hll : l.length = s.size := by rw [← hl, ba_len]
  have c1 := fun W => cutDigits_l s W hs
  rw [hl] at c1 hr hz ⊢
  have hP := numP_point hr
  have hdl := (List.dropWhile_suffix (l := l) isD).length_le
  rw [hr] at c1 hdl
  rw [List.length_cons] at hdl
  obtain ⟨wl, hwl⟩ : ∃ wl, l.takeWhile isD = wl := ⟨_, rfl⟩
  rw [hwl] at c1 hP
  obtain ⟨W1, hW1⟩ : ∃ W1 : ByteArray, (⟨wl.toArray⟩ : ByteArray) = W1 := ⟨_, rfl⟩
  have hW1l : W1.toList = wl := by rw [Lib.toList_data, ← hW1]
  obtain ⟨R1, hR1⟩ : ∃ R1 : ByteArray, (⟨(46 :: r).toArray⟩ : ByteArray) = R1 := ⟨_, rfl⟩
  have hR1l : R1.data.toList = 46 :: r := by rw [← hR1]
  rw [hW1, hR1] at c1
  have c2 := fun W => Tryz.strings_CutPrefix R1 ⟨#[46]⟩ W
  rw [hR1l] at c2
  change ∀ W : World, Calls Tryz.prog 113 #[.string R1, .string ⟨#[46]⟩] W fun e w' => e = .returned (.tuple #[.string ⟨r.toArray⟩, .bool true]) ∧ w' = W at c2
  obtain ⟨R2, hR2⟩ : ∃ R2 : ByteArray, (⟨r.toArray⟩ : ByteArray) = R2 := ⟨_, rfl⟩
  have hR2l : R2.data.toList = r := by rw [← hR2]
  rw [hR2] at c2
  have c3 := fun W => cutDigits_l R2 W (by rw [← ba_len, hR2l]; omega)
  rw [hR2l] at c3
  obtain ⟨fl, hfl⟩ : ∃ fl, r.takeWhile isD = fl := ⟨_, rfl⟩
  obtain ⟨rl, hrl⟩ : ∃ rl, r.dropWhile isD = rl := ⟨_, rfl⟩
  have hrll : rl.length ≤ s.size := by rw [← hrl]; have := (List.dropWhile_suffix (l := r) isD).length_le; omega
  rw [hfl, hrl] at c3 hP
  obtain ⟨F1, hF1⟩ : ∃ F1 : ByteArray, (⟨fl.toArray⟩ : ByteArray) = F1 := ⟨_, rfl⟩
  have hF1l : F1.toList = fl := by rw [Lib.toList_data, ← hF1]
  obtain ⟨R3, hR3⟩ : ∃ R3 : ByteArray, (⟨rl.toArray⟩ : ByteArray) = R3 := ⟨_, rfl⟩
  have hR3l : R3.data.toList = rl := by rw [← hR3]
  rw [hF1, hR3] at c3
  have C3 := Lib.hid c3
  have hZ := numL_no hz
  rw [hP] at hz
  change  (wl = [] ∧ fl = []) at hz
  have HZ := Lib.hid hZ
  have C1 := Lib.hid c1
  have C2 := Lib.hid c2
  have HW1 := Lib.hid hW1
  have HF1 := Lib.hid hF1
  have HR := Lib.hid (show True from trivial)
  have t1 : W1.toList = [] := by rw [hW1l]; exact hz.1
  have t2 : W1.toList.isEmpty = true := by rw [t1]; rfl
  have t3 : F1.toList = [] := by rw [hF1l]; exact hz.2
  have t4 : F1.toList.isEmpty = true := by rw [t3]; rfl
  clear hl hll c1 hr hP hdl hwl hW1 hW1l hR1 hR1l c2 hz hZ hF1 hR3l hrl hrll hR2 hR2l c3 hfl hF1l hR3
  have hb0 := ((Below.refl w.heap.size w).alloc (Nat.le_refl _) (.cells #[.bool false, .string ⟨#[]⟩, .string ⟨#[]⟩, .int .i64 0, .int .i64 0] 105)).alloc (by simp) (.cells #[.bool false, .string ⟨#[]⟩, .string ⟨#[]⟩, .int .i64 0, .int .i64 0] 105)
  go_enter Tryz.func74, Tryz.ntmps74
  go_wp2_with fail
  refine (C1.out _).mono ?_
  rintro e w1 ⟨rfl, hn⟩
  obtain ⟨B, hBB⟩ : ∃ B, w.heap.size = B := ⟨_, rfl⟩
  have f1 : Five w1 (B + 1) #[.bool false, .string ⟨#[]⟩, .string ⟨#[]⟩, .int .i64 0, .int .i64 0] 105 := by
    have h := Five.new (w.alloc (.cells #[.bool false, .string ⟨#[]⟩, .string ⟨#[]⟩, .int .i64 0, .int .i64 0] 105)) #[.bool false, .string ⟨#[]⟩, .string ⟨#[]⟩, .int .i64 0, .int .i64 0] 105
    rw [World.size_alloc, hBB] at h
    exact h.below hn
  have f0 : Five w1 B #[.bool false, .string ⟨#[]⟩, .string ⟨#[]⟩, .int .i64 0, .int .i64 0] 105 := by
    have h := (Five.new w #[.bool false, .string ⟨#[]⟩, .string ⟨#[]⟩, .int .i64 0, .int .i64 0] 105).alloc (.cells #[.bool false, .string ⟨#[]⟩, .string ⟨#[]⟩, .int .i64 0, .int .i64 0] 105)
    rw [hBB] at h
    exact h.below hn
  have hB := hb0.trans (hn.mono hb0.size)
  rw [hBB] at hB
  rw [hBB]
  clear hn hb0
  obtain ⟨-, g1, -, -, -, -, z1, -, -, -⟩ := f1.all
  have F1' := Lib.hid (f1.set (j := 1) (u := .string W1))
  have F0' := Lib.hid (f0.other (j := 1) (u := .string W1) (show B ≠ B + 1 by omega))
  have hB := hB.setCell (p := ⟨B + 1, 1, none⟩) (show B ≤ B + 1 by omega) (.string W1)
  clear f0 f1
  go_wp2_with fail
  obtain ⟨wa, hwa⟩ : ∃ wa, w1.setCell ⟨B + 1, 1, none⟩ (.string W1) = wa := ⟨_, rfl⟩
  rw [hwa] at F1' F0' hB
  rw [hwa]
  clear hwa g1 z1
  refine (C2.out _).mono ?_
  rintro e w2 ⟨rfl, rfl⟩
  have F1' : Hid (Five w2 (B + 1) #[.bool false, .string W1, .string ⟨#[]⟩, .int .i64 0, .int .i64 0] 105) := F1'
  go_wp2_with fail
  refine (C3.out _).mono ?_
  rintro e w3 ⟨rfl, hn⟩
  have f1 := F1'.out.below hn
  have f0 := F0'.out.below hn
  have hB := hB.trans (hn.mono (show B ≤ w2.heap.size by have := hB.size; omega))
  clear hn F1' F0'
  obtain ⟨-, g1, g2, -, -, -, z1, z2, -, -⟩ := f1.all
  have F1' := Lib.hid (f1.set (j := 2) (u := .string F1))
  have F0' := Lib.hid (f0.other (j := 2) (u := .string F1) (show B ≠ B + 1 by omega))
  have hB := hB.setCell (p := ⟨B + 1, 2, none⟩) (show B ≤ B + 1 by omega) (.string F1)
  clear f0 f1
  obtain ⟨wb, hwb⟩ : ∃ wb, w3.setCell ⟨B + 1, 2, none⟩ (.string F1) = wb := ⟨_, rfl⟩
  rw [hwb] at F1' F0' hB
  have F1' : Hid (Five wb (B + 1) #[.bool false, .string W1, .string F1, .int .i64 0, .int .i64 0] 105) := F1'
  obtain ⟨q0, q1, q2, q3, q4, y0, y1, y2, y3, y4⟩ := F1'.out.all
  obtain ⟨r0, r1, r2, r3, r4, x0, x1, x2, x3, x4⟩ := F0'.out.all
  go_wp2_with fail
  clear g1 g2 z1 z2 q0 q1 q2 q3 q4 y0 y1 y2 y3 y4 r0 r1 r2 r3 r4 x0 x1 x2 x3 x4
  have hz5 : Five _ B #[.bool false, .string ⟨#[]⟩, .string ⟨#[]⟩, .int .i64 0, .int .i64 0] 105 := ((((F0'.out.set (j := 0) (u := .bool false)).set (j := 1) (u := .string ⟨#[]⟩)).set (j := 2) (u := .string ⟨#[]⟩)).set (j := 3) (u := .int .i64 0)).set (j := 4) (u := .int .i64 0)
  have hB5 := ((((hB.setCell (p := ⟨B, 0, none⟩) (Nat.le_refl B) (.bool false)).setCell (p := ⟨B, 1, none⟩) (Nat.le_refl B) (.string ⟨#[]⟩)).setCell (p := ⟨B, 2, none⟩) (Nat.le_refl B) (.string ⟨#[]⟩)).setCell (p := ⟨B, 3, none⟩) (Nat.le_refl B) (.int .i64 0)).setCell (p := ⟨B, 4, none⟩) (Nat.le_refl B) (.int .i64 0)
  obtain ⟨wz, hwz⟩ : ∃ wz, ((((wb.setCell ⟨B, 0, none⟩ (.bool false)).setCell ⟨B, 1, none⟩ (.string ⟨#[]⟩)).setCell ⟨B, 2, none⟩ (.string ⟨#[]⟩)).setCell ⟨B, 3, none⟩ (.int .i64 0)).setCell ⟨B, 4, none⟩ (.int .i64 0) = wz := ⟨_, rfl⟩
  rw [hwz] at hz5 hB5 ⊢
  obtain ⟨r0, r1, r2, r3, r4, -, -, -, -, -⟩ := hz5.all
  refine bodyPost_ret (v := numV false ([], [], 0, 0)) (by simp [results, Tryz.results74, go_sem, r0, r1, r2, r3, r4, numV]) rfl ⟨by rw [HZ.out], by rw [hBB]; exact hB5⟩
set_option maxRecDepth 100000 in
set_option maxHeartbeats 4000000 in
theorem cutNumeral_point_yes (s : ByteArray) (w : World) (hs : s.size ≤ 4611686018427387904) (r : List UInt8) (hr : s.data.toList.dropWhile isD = 46 :: r) (hz : ¬ ((numP s.data.toList).1 = [] ∧ (numP s.data.toList).2.1 = [])) :
    Calls Tryz.prog 74 #[.string s] w (NumEnd w (numL s.data.toList)) := by
  obtain ⟨l, hl⟩ : ∃ l, s.data.toList = l := ⟨_, rfl⟩
  have hll : l.length = s.size := by rw [← hl, ba_len]
  have c1 := fun W => cutDigits_l s W hs
  rw [hl] at c1 hr hz ⊢
  have hP := numP_point hr
  have hdl := (List.dropWhile_suffix (l := l) isD).length_le
  rw [hr] at c1 hdl
  rw [List.length_cons] at hdl
  obtain ⟨wl, hwl⟩ : ∃ wl, l.takeWhile isD = wl := ⟨_, rfl⟩
  rw [hwl] at c1 hP
  obtain ⟨W1, hW1⟩ : ∃ W1 : ByteArray, (⟨wl.toArray⟩ : ByteArray) = W1 := ⟨_, rfl⟩
  have hW1l : W1.toList = wl := by rw [Lib.toList_data, ← hW1]
  obtain ⟨R1, hR1⟩ : ∃ R1 : ByteArray, (⟨(46 :: r).toArray⟩ : ByteArray) = R1 := ⟨_, rfl⟩
  have hR1l : R1.data.toList = 46 :: r := by rw [← hR1]
  rw [hW1, hR1] at c1
  have c2 := fun W => Tryz.strings_CutPrefix R1 ⟨#[46]⟩ W
  rw [hR1l] at c2
  change ∀ W : World, Calls Tryz.prog 113 #[.string R1, .string ⟨#[46]⟩] W fun e w' => e = .returned (.tuple #[.string ⟨r.toArray⟩, .bool true]) ∧ w' = W at c2
  obtain ⟨R2, hR2⟩ : ∃ R2 : ByteArray, (⟨r.toArray⟩ : ByteArray) = R2 := ⟨_, rfl⟩
  have hR2l : R2.data.toList = r := by rw [← hR2]
  rw [hR2] at c2
  have c3 := fun W => cutDigits_l R2 W (by rw [← ba_len, hR2l]; omega)
  rw [hR2l] at c3
  obtain ⟨fl, hfl⟩ : ∃ fl, r.takeWhile isD = fl := ⟨_, rfl⟩
  obtain ⟨rl, hrl⟩ : ∃ rl, r.dropWhile isD = rl := ⟨_, rfl⟩
  have hrll : rl.length ≤ s.size := by rw [← hrl]; have := (List.dropWhile_suffix (l := r) isD).length_le; omega
  rw [hfl, hrl] at c3 hP
  obtain ⟨F1, hF1⟩ : ∃ F1 : ByteArray, (⟨fl.toArray⟩ : ByteArray) = F1 := ⟨_, rfl⟩
  have hF1l : F1.toList = fl := by rw [Lib.toList_data, ← hF1]
  obtain ⟨R3, hR3⟩ : ∃ R3 : ByteArray, (⟨rl.toArray⟩ : ByteArray) = R3 := ⟨_, rfl⟩
  have hR3l : R3.data.toList = rl := by rw [← hR3]
  rw [hF1, hR3] at c3
  have C3 := Lib.hid c3
  have c4 := fun W => cutExp_any R3 W (by rw [← ba_len, hR3l]; omega)
  rw [hR3l] at c4
  have hxb := expL_bd rl
  obtain ⟨xe, hxe⟩ : ∃ xe, (expL rl).1 = xe := ⟨_, rfl⟩
  obtain ⟨xr, hxr⟩ : ∃ xr, (expL rl).2 = xr := ⟨_, rfl⟩
  have hZ := numL_yes hz
  rw [hP] at hZ
  change numL l = (wl, fl, (expL rl).1, (l.length : Int) - ((expL rl).2.length : Int)) at hZ
  unfold ExpEnd at c4
  rw [hxe, hxr] at c4 hZ hxb
  obtain ⟨R4, hR4⟩ : ∃ R4 : ByteArray, (⟨xr.toArray⟩ : ByteArray) = R4 := ⟨_, rfl⟩
  have hR4s : xr.length = R4.size := by rw [← ba_len, ← hR4]
  rw [hR4] at c4
  rw [hR4s, hll] at hZ
  rw [hR4s] at hxb
  have hRs : R4.size ≤ s.size := Nat.le_trans hxb.2.2 hrll
  have C4 := Lib.hid c4
  rw [hP] at hz
  change ¬ (wl = [] ∧ fl = []) at hz
  have HZ := Lib.hid hZ
  have C1 := Lib.hid c1
  have C2 := Lib.hid c2
  have HW1 := Lib.hid hW1
  have HF1 := Lib.hid hF1
  have HR := Lib.hid (show True from trivial)
  have hcase : (¬ W1.toList = [] ∧ W1.toList.isEmpty = false) ∨ ((W1.toList = [] ∧ W1.toList.isEmpty = true) ∧ ¬ F1.toList = [] ∧ F1.toList.isEmpty = false) := by
    rw [hW1l, hF1l]
    cases wl with
    | nil => right; cases fl with
      | nil => exact absurd ⟨rfl, rfl⟩ hz
      | cons a b => exact ⟨⟨rfl, rfl⟩, by simp, rfl⟩
    | cons a b => left; exact ⟨by simp, rfl⟩
  clear hl hll c1 hr hP hdl hwl hW1 hW1l hR1 hR1l c2 hz hZ hF1 hR3l hrl hrll hR2 hR2l c3 hfl hF1l hR3 c4 hxe hxr hR4 hR4s
  have hb0 := ((Below.refl w.heap.size w).alloc (Nat.le_refl _) (.cells #[.bool false, .string ⟨#[]⟩, .string ⟨#[]⟩, .int .i64 0, .int .i64 0] 105)).alloc (by simp) (.cells #[.bool false, .string ⟨#[]⟩, .string ⟨#[]⟩, .int .i64 0, .int .i64 0] 105)
  rcases hcase with ⟨t1, t2⟩ | ⟨⟨t1, t2⟩, t3, t4⟩
  all_goals
    go_enter Tryz.func74, Tryz.ntmps74
    go_wp2_with fail
    refine (C1.out _).mono ?_
    rintro e w1 ⟨rfl, hn⟩
    obtain ⟨B, hBB⟩ : ∃ B, w.heap.size = B := ⟨_, rfl⟩
    have f1 : Five w1 (B + 1) #[.bool false, .string ⟨#[]⟩, .string ⟨#[]⟩, .int .i64 0, .int .i64 0] 105 := by
      have h := Five.new (w.alloc (.cells #[.bool false, .string ⟨#[]⟩, .string ⟨#[]⟩, .int .i64 0, .int .i64 0] 105)) #[.bool false, .string ⟨#[]⟩, .string ⟨#[]⟩, .int .i64 0, .int .i64 0] 105
      rw [World.size_alloc, hBB] at h
      exact h.below hn
    have f0 : Five w1 B #[.bool false, .string ⟨#[]⟩, .string ⟨#[]⟩, .int .i64 0, .int .i64 0] 105 := by
      have h := (Five.new w #[.bool false, .string ⟨#[]⟩, .string ⟨#[]⟩, .int .i64 0, .int .i64 0] 105).alloc (.cells #[.bool false, .string ⟨#[]⟩, .string ⟨#[]⟩, .int .i64 0, .int .i64 0] 105)
      rw [hBB] at h
      exact h.below hn
    have hB := hb0.trans (hn.mono hb0.size)
    rw [hBB] at hB
    rw [hBB]
    clear hn hb0
    obtain ⟨-, g1, -, -, -, -, z1, -, -, -⟩ := f1.all
    have F1' := Lib.hid (f1.set (j := 1) (u := .string W1))
    have F0' := Lib.hid (f0.other (j := 1) (u := .string W1) (show B ≠ B + 1 by omega))
    have hB := hB.setCell (p := ⟨B + 1, 1, none⟩) (show B ≤ B + 1 by omega) (.string W1)
    clear f0 f1
    go_wp2_with fail
    obtain ⟨wa, hwa⟩ : ∃ wa, w1.setCell ⟨B + 1, 1, none⟩ (.string W1) = wa := ⟨_, rfl⟩
    rw [hwa] at F1' F0' hB
    rw [hwa]
    clear hwa g1 z1
    refine (C2.out _).mono ?_
    rintro e w2 ⟨rfl, rfl⟩
    have F1' : Hid (Five w2 (B + 1) #[.bool false, .string W1, .string ⟨#[]⟩, .int .i64 0, .int .i64 0] 105) := F1'
    go_wp2_with fail
    refine (C3.out _).mono ?_
    rintro e w3 ⟨rfl, hn⟩
    have f1 := F1'.out.below hn
    have f0 := F0'.out.below hn
    have hB := hB.trans (hn.mono (show B ≤ w2.heap.size by have := hB.size; omega))
    clear hn F1' F0'
    obtain ⟨-, g1, g2, -, -, -, z1, z2, -, -⟩ := f1.all
    have F1' := Lib.hid (f1.set (j := 2) (u := .string F1))
    have F0' := Lib.hid (f0.other (j := 2) (u := .string F1) (show B ≠ B + 1 by omega))
    have hB := hB.setCell (p := ⟨B + 1, 2, none⟩) (show B ≤ B + 1 by omega) (.string F1)
    clear f0 f1
    obtain ⟨wb, hwb⟩ : ∃ wb, w3.setCell ⟨B + 1, 2, none⟩ (.string F1) = wb := ⟨_, rfl⟩
    rw [hwb] at F1' F0' hB
    have F1' : Hid (Five wb (B + 1) #[.bool false, .string W1, .string F1, .int .i64 0, .int .i64 0] 105) := F1'
    obtain ⟨q0, q1, q2, q3, q4, y0, y1, y2, y3, y4⟩ := F1'.out.all
    obtain ⟨r0, r1, r2, r3, r4, x0, x1, x2, x3, x4⟩ := F0'.out.all
    go_wp2_with fail
    refine (C4.out _).mono ?_
    rintro e w4 ⟨rfl, hn⟩
    have f1 := F1'.out.below hn
    have f0 := F0'.out.below hn
    have hB := hB.trans (hn.mono (show B ≤ (wb).heap.size by have := hB.size; omega))
    clear hn F1' F0' q0 q1 q2 q3 q4 y0 y1 y2 y3 y4 r0 r1 r2 r3 r4 x0 x1 x2 x3 x4
    obtain ⟨g0, g1, g2, g3, g4, -, -, -, z3, z4⟩ := f1.all
    obtain ⟨r0, r1, r2, r3, r4, x0, x1, x2, x3, x4⟩ := f0.all
    have F0' := Lib.hid f0
    clear f0 f1
    have hw64 : wrap64 ((s.size : Int) - (R4.size : Int)) = (s.size : Int) - (R4.size : Int) := by unfold wrap64; omega
    go_wp2_with fail
    clear g0 g1 g2 g3 g4 z3 z4 r0 r1 r2 r3 r4 x0 x1 x2 x3 x4
    have hz5 : Five _ B #[.bool false, .string W1, .string F1, .int .i64 xe, .int .i64 ((s.size : Int) - (R4.size : Int))] 105 := (((((((F0'.out.other (j := 3) (u := .int .i64 xe) (show B ≠ B + 1 by omega)).other (j := 4) (u := .int .i64 ((s.size : Int) - (R4.size : Int))) (show B ≠ B + 1 by omega)).set (j := 0) (u := .bool false)).set (j := 1) (u := .string W1)).set (j := 2) (u := .string F1)).set (j := 3) (u := .int .i64 xe)).set (j := 4) (u := .int .i64 ((s.size : Int) - (R4.size : Int))))
    have hB5 := ((((((hB.setCell (p := ⟨B + 1, 3, none⟩) (show B ≤ B + 1 by omega) (.int .i64 xe)).setCell (p := ⟨B + 1, 4, none⟩) (show B ≤ B + 1 by omega) (.int .i64 ((s.size : Int) - (R4.size : Int)))).setCell (p := ⟨B, 0, none⟩) (Nat.le_refl B) (.bool false)).setCell (p := ⟨B, 1, none⟩) (Nat.le_refl B) (.string W1)).setCell (p := ⟨B, 2, none⟩) (Nat.le_refl B) (.string F1)).setCell (p := ⟨B, 3, none⟩) (Nat.le_refl B) (.int .i64 xe)).setCell (p := ⟨B, 4, none⟩) (Nat.le_refl B) (.int .i64 ((s.size : Int) - (R4.size : Int)))
    obtain ⟨wz, hwz⟩ : ∃ wz, ((((((w4.setCell ⟨B + 1, 3, none⟩ (.int .i64 xe)).setCell ⟨B + 1, 4, none⟩ (.int .i64 ((s.size : Int) - (R4.size : Int)))).setCell ⟨B, 0, none⟩ (.bool false)).setCell ⟨B, 1, none⟩ (.string W1)).setCell ⟨B, 2, none⟩ (.string F1)).setCell ⟨B, 3, none⟩ (.int .i64 xe)).setCell ⟨B, 4, none⟩ (.int .i64 ((s.size : Int) - (R4.size : Int))) = wz := ⟨_, rfl⟩
    rw [hwz] at hz5 hB5 ⊢
    obtain ⟨r0, r1, r2, r3, r4, -, -, -, -, -⟩ := hz5.all
    refine bodyPost_ret (v := .agg #[.bool false, .string W1, .string F1, .int .i64 xe, .int .i64 ((s.size : Int) - (R4.size : Int))]) (by simp [results, Tryz.results74, go_sem, r0, r1, r2, r3, r4]) rfl ⟨by rw [HZ.out, ← HW1.out, ← HF1.out]; rfl, by rw [hBB]; exact hB5⟩
set_option maxRecDepth 100000 in
set_option maxHeartbeats 4000000 in
theorem cutNumeral_none_no (s : ByteArray) (w : World) (hs : s.size ≤ 4611686018427387904) (hr : (s.data.toList.dropWhile isD).head? ≠ some 46) (hz : (numP s.data.toList).1 = [] ∧ (numP s.data.toList).2.1 = []) :
    Calls Tryz.prog 74 #[.string s] w (NumEnd w (numL s.data.toList)) := by
  obtain ⟨l, hl⟩ : ∃ l, s.data.toList = l := ⟨_, rfl⟩
  have hll : l.length = s.size := by rw [← hl, ba_len]
  have c1 := fun W => cutDigits_l s W hs
  rw [hl] at c1 hr hz ⊢
  have hP := numP_none hr
  have hdl := (List.dropWhile_suffix (l := l) isD).length_le
  obtain ⟨wl, hwl⟩ : ∃ wl, l.takeWhile isD = wl := ⟨_, rfl⟩
  rw [hwl] at c1 hP
  obtain ⟨W1, hW1⟩ : ∃ W1 : ByteArray, (⟨wl.toArray⟩ : ByteArray) = W1 := ⟨_, rfl⟩
  have hW1l : W1.toList = wl := by rw [Lib.toList_data, ← hW1]
  obtain ⟨R1, hR1⟩ : ∃ R1 : ByteArray, (⟨(l.dropWhile isD).toArray⟩ : ByteArray) = R1 := ⟨_, rfl⟩
  have hR1l : R1.data.toList = l.dropWhile isD := by rw [← hR1]
  rw [hW1, hR1] at c1
  have c2 := fun W => Tryz.strings_CutPrefix R1 ⟨#[46]⟩ W
  rw [hR1l] at c2
  have e46 : ((l.dropWhile isD).head? == some 46) = false := by rw [beq_eq_false_iff_ne]; exact hr
  have c2' : ∀ W : World, Calls Tryz.prog 113 #[.string R1, .string ⟨#[46]⟩] W fun e w' => e = .returned (.tuple #[.string R1, .bool false]) ∧ w' = W := fun W => by
    have h := c2 W
    change Calls Tryz.prog 113 #[.string R1, .string ⟨#[46]⟩] W fun e w' => e = .returned (.tuple #[.string ⟨(Lib.trimPrefix (l.dropWhile isD) [46]).toArray⟩, .bool (Lib.hasPrefix (l.dropWhile isD) [46])]) ∧ w' = W at h
    unfold Lib.trimPrefix at h
    rw [pre_one, e46, if_neg (by decide), hR1] at h
    exact h
  clear c2
  have c2 := c2'
  clear c2' e46
  obtain ⟨rl, hrl⟩ : ∃ rl, l.dropWhile isD = rl := ⟨_, rfl⟩
  have hrll : rl.length ≤ s.size := by rw [← hrl]; omega
  rw [hrl] at hP hR1l
  have hR3l := hR1l
  have hF1 : (⟨([] : List UInt8).toArray⟩ : ByteArray) = ⟨#[]⟩ := rfl
  have hZ := numL_no hz
  rw [hP] at hz
  change  (wl = [] ∧ ([] : List UInt8) = []) at hz
  have HZ := Lib.hid hZ
  have C1 := Lib.hid c1
  have C2 := Lib.hid c2
  have HW1 := Lib.hid hW1
  have HF1 := Lib.hid hF1
  have HR := Lib.hid (show True from trivial)
  have t1 : W1.toList = [] := by rw [hW1l]; exact hz.1
  have t2 : W1.toList.isEmpty = true := by rw [t1]; rfl
  clear hl hll c1 hr hP hdl hwl hW1 hW1l hR1 hR1l c2 hz hZ hF1 hR3l hrl hrll
  have hb0 := ((Below.refl w.heap.size w).alloc (Nat.le_refl _) (.cells #[.bool false, .string ⟨#[]⟩, .string ⟨#[]⟩, .int .i64 0, .int .i64 0] 105)).alloc (by simp) (.cells #[.bool false, .string ⟨#[]⟩, .string ⟨#[]⟩, .int .i64 0, .int .i64 0] 105)
  go_enter Tryz.func74, Tryz.ntmps74
  go_wp2_with fail
  refine (C1.out _).mono ?_
  rintro e w1 ⟨rfl, hn⟩
  obtain ⟨B, hBB⟩ : ∃ B, w.heap.size = B := ⟨_, rfl⟩
  have f1 : Five w1 (B + 1) #[.bool false, .string ⟨#[]⟩, .string ⟨#[]⟩, .int .i64 0, .int .i64 0] 105 := by
    have h := Five.new (w.alloc (.cells #[.bool false, .string ⟨#[]⟩, .string ⟨#[]⟩, .int .i64 0, .int .i64 0] 105)) #[.bool false, .string ⟨#[]⟩, .string ⟨#[]⟩, .int .i64 0, .int .i64 0] 105
    rw [World.size_alloc, hBB] at h
    exact h.below hn
  have f0 : Five w1 B #[.bool false, .string ⟨#[]⟩, .string ⟨#[]⟩, .int .i64 0, .int .i64 0] 105 := by
    have h := (Five.new w #[.bool false, .string ⟨#[]⟩, .string ⟨#[]⟩, .int .i64 0, .int .i64 0] 105).alloc (.cells #[.bool false, .string ⟨#[]⟩, .string ⟨#[]⟩, .int .i64 0, .int .i64 0] 105)
    rw [hBB] at h
    exact h.below hn
  have hB := hb0.trans (hn.mono hb0.size)
  rw [hBB] at hB
  rw [hBB]
  clear hn hb0
  obtain ⟨-, g1, -, -, -, -, z1, -, -, -⟩ := f1.all
  have F1' := Lib.hid (f1.set (j := 1) (u := .string W1))
  have F0' := Lib.hid (f0.other (j := 1) (u := .string W1) (show B ≠ B + 1 by omega))
  have hB := hB.setCell (p := ⟨B + 1, 1, none⟩) (show B ≤ B + 1 by omega) (.string W1)
  clear f0 f1
  go_wp2_with fail
  obtain ⟨wa, hwa⟩ : ∃ wa, w1.setCell ⟨B + 1, 1, none⟩ (.string W1) = wa := ⟨_, rfl⟩
  rw [hwa] at F1' F0' hB
  rw [hwa]
  clear hwa g1 z1
  refine (C2.out _).mono ?_
  rintro e w2 ⟨rfl, rfl⟩
  have F1' : Hid (Five w2 (B + 1) #[.bool false, .string W1, .string ⟨#[]⟩, .int .i64 0, .int .i64 0] 105) := F1'
  obtain ⟨q0, q1, q2, q3, q4, y0, y1, y2, y3, y4⟩ := F1'.out.all
  obtain ⟨r0, r1, r2, r3, r4, x0, x1, x2, x3, x4⟩ := F0'.out.all
  go_wp2_with fail
  clear q0 q1 q2 q3 q4 y0 y1 y2 y3 y4 r0 r1 r2 r3 r4 x0 x1 x2 x3 x4
  have hz5 : Five _ B #[.bool false, .string ⟨#[]⟩, .string ⟨#[]⟩, .int .i64 0, .int .i64 0] 105 := ((((F0'.out.set (j := 0) (u := .bool false)).set (j := 1) (u := .string ⟨#[]⟩)).set (j := 2) (u := .string ⟨#[]⟩)).set (j := 3) (u := .int .i64 0)).set (j := 4) (u := .int .i64 0)
  have hB5 := ((((hB.setCell (p := ⟨B, 0, none⟩) (Nat.le_refl B) (.bool false)).setCell (p := ⟨B, 1, none⟩) (Nat.le_refl B) (.string ⟨#[]⟩)).setCell (p := ⟨B, 2, none⟩) (Nat.le_refl B) (.string ⟨#[]⟩)).setCell (p := ⟨B, 3, none⟩) (Nat.le_refl B) (.int .i64 0)).setCell (p := ⟨B, 4, none⟩) (Nat.le_refl B) (.int .i64 0)
  obtain ⟨wz, hwz⟩ : ∃ wz, ((((w2.setCell ⟨B, 0, none⟩ (.bool false)).setCell ⟨B, 1, none⟩ (.string ⟨#[]⟩)).setCell ⟨B, 2, none⟩ (.string ⟨#[]⟩)).setCell ⟨B, 3, none⟩ (.int .i64 0)).setCell ⟨B, 4, none⟩ (.int .i64 0) = wz := ⟨_, rfl⟩
  rw [hwz] at hz5 hB5 ⊢
  obtain ⟨r0, r1, r2, r3, r4, -, -, -, -, -⟩ := hz5.all
  refine bodyPost_ret (v := numV false ([], [], 0, 0)) (by simp [results, Tryz.results74, go_sem, r0, r1, r2, r3, r4, numV]) rfl ⟨by rw [HZ.out], by rw [hBB]; exact hB5⟩
set_option maxRecDepth 100000 in
set_option maxHeartbeats 4000000 in
theorem cutNumeral_none_yes (s : ByteArray) (w : World) (hs : s.size ≤ 4611686018427387904) (hr : (s.data.toList.dropWhile isD).head? ≠ some 46) (hz : ¬ ((numP s.data.toList).1 = [] ∧ (numP s.data.toList).2.1 = [])) :
    Calls Tryz.prog 74 #[.string s] w (NumEnd w (numL s.data.toList)) := by
  obtain ⟨l, hl⟩ : ∃ l, s.data.toList = l := ⟨_, rfl⟩
  have hll : l.length = s.size := by rw [← hl, ba_len]
  have c1 := fun W => cutDigits_l s W hs
  rw [hl] at c1 hr hz ⊢
  have hP := numP_none hr
  have hdl := (List.dropWhile_suffix (l := l) isD).length_le
  obtain ⟨wl, hwl⟩ : ∃ wl, l.takeWhile isD = wl := ⟨_, rfl⟩
  rw [hwl] at c1 hP
  obtain ⟨W1, hW1⟩ : ∃ W1 : ByteArray, (⟨wl.toArray⟩ : ByteArray) = W1 := ⟨_, rfl⟩
  have hW1l : W1.toList = wl := by rw [Lib.toList_data, ← hW1]
  obtain ⟨R1, hR1⟩ : ∃ R1 : ByteArray, (⟨(l.dropWhile isD).toArray⟩ : ByteArray) = R1 := ⟨_, rfl⟩
  have hR1l : R1.data.toList = l.dropWhile isD := by rw [← hR1]
  rw [hW1, hR1] at c1
  have c2 := fun W => Tryz.strings_CutPrefix R1 ⟨#[46]⟩ W
  rw [hR1l] at c2
  have e46 : ((l.dropWhile isD).head? == some 46) = false := by rw [beq_eq_false_iff_ne]; exact hr
  have c2' : ∀ W : World, Calls Tryz.prog 113 #[.string R1, .string ⟨#[46]⟩] W fun e w' => e = .returned (.tuple #[.string R1, .bool false]) ∧ w' = W := fun W => by
    have h := c2 W
    change Calls Tryz.prog 113 #[.string R1, .string ⟨#[46]⟩] W fun e w' => e = .returned (.tuple #[.string ⟨(Lib.trimPrefix (l.dropWhile isD) [46]).toArray⟩, .bool (Lib.hasPrefix (l.dropWhile isD) [46])]) ∧ w' = W at h
    unfold Lib.trimPrefix at h
    rw [pre_one, e46, if_neg (by decide), hR1] at h
    exact h
  clear c2
  have c2 := c2'
  clear c2' e46
  obtain ⟨rl, hrl⟩ : ∃ rl, l.dropWhile isD = rl := ⟨_, rfl⟩
  have hrll : rl.length ≤ s.size := by rw [← hrl]; omega
  rw [hrl] at hP hR1l
  have hR3l := hR1l
  have hF1 : (⟨([] : List UInt8).toArray⟩ : ByteArray) = ⟨#[]⟩ := rfl
  have c4 := fun W => cutExp_any R1 W (by rw [← ba_len, hR3l]; omega)
  rw [hR3l] at c4
  have hxb := expL_bd rl
  obtain ⟨xe, hxe⟩ : ∃ xe, (expL rl).1 = xe := ⟨_, rfl⟩
  obtain ⟨xr, hxr⟩ : ∃ xr, (expL rl).2 = xr := ⟨_, rfl⟩
  have hZ := numL_yes hz
  rw [hP] at hZ
  change numL l = (wl, [], (expL rl).1, (l.length : Int) - ((expL rl).2.length : Int)) at hZ
  unfold ExpEnd at c4
  rw [hxe, hxr] at c4 hZ hxb
  obtain ⟨R4, hR4⟩ : ∃ R4 : ByteArray, (⟨xr.toArray⟩ : ByteArray) = R4 := ⟨_, rfl⟩
  have hR4s : xr.length = R4.size := by rw [← ba_len, ← hR4]
  rw [hR4] at c4
  rw [hR4s, hll] at hZ
  rw [hR4s] at hxb
  have hRs : R4.size ≤ s.size := Nat.le_trans hxb.2.2 hrll
  have C4 := Lib.hid c4
  rw [hP] at hz
  change ¬ (wl = [] ∧ ([] : List UInt8) = []) at hz
  have HZ := Lib.hid hZ
  have C1 := Lib.hid c1
  have C2 := Lib.hid c2
  have HW1 := Lib.hid hW1
  have HF1 := Lib.hid hF1
  have HR := Lib.hid (show True from trivial)
  have t1 : ¬ W1.toList = [] := by rw [hW1l]; exact fun h => hz ⟨h, rfl⟩
  have t2 : W1.toList.isEmpty = false := by rw [hW1l]; cases wl with | nil => exact absurd ⟨rfl, rfl⟩ hz | cons a b => rfl
  clear hl hll c1 hr hP hdl hwl hW1 hW1l hR1 hR1l c2 hz hZ hF1 hR3l hrl hrll c4 hxe hxr hR4 hR4s
  have hb0 := ((Below.refl w.heap.size w).alloc (Nat.le_refl _) (.cells #[.bool false, .string ⟨#[]⟩, .string ⟨#[]⟩, .int .i64 0, .int .i64 0] 105)).alloc (by simp) (.cells #[.bool false, .string ⟨#[]⟩, .string ⟨#[]⟩, .int .i64 0, .int .i64 0] 105)
  go_enter Tryz.func74, Tryz.ntmps74
  go_wp2_with fail
  refine (C1.out _).mono ?_
  rintro e w1 ⟨rfl, hn⟩
  obtain ⟨B, hBB⟩ : ∃ B, w.heap.size = B := ⟨_, rfl⟩
  have f1 : Five w1 (B + 1) #[.bool false, .string ⟨#[]⟩, .string ⟨#[]⟩, .int .i64 0, .int .i64 0] 105 := by
    have h := Five.new (w.alloc (.cells #[.bool false, .string ⟨#[]⟩, .string ⟨#[]⟩, .int .i64 0, .int .i64 0] 105)) #[.bool false, .string ⟨#[]⟩, .string ⟨#[]⟩, .int .i64 0, .int .i64 0] 105
    rw [World.size_alloc, hBB] at h
    exact h.below hn
  have f0 : Five w1 B #[.bool false, .string ⟨#[]⟩, .string ⟨#[]⟩, .int .i64 0, .int .i64 0] 105 := by
    have h := (Five.new w #[.bool false, .string ⟨#[]⟩, .string ⟨#[]⟩, .int .i64 0, .int .i64 0] 105).alloc (.cells #[.bool false, .string ⟨#[]⟩, .string ⟨#[]⟩, .int .i64 0, .int .i64 0] 105)
    rw [hBB] at h
    exact h.below hn
  have hB := hb0.trans (hn.mono hb0.size)
  rw [hBB] at hB
  rw [hBB]
  clear hn hb0
  obtain ⟨-, g1, -, -, -, -, z1, -, -, -⟩ := f1.all
  have F1' := Lib.hid (f1.set (j := 1) (u := .string W1))
  have F0' := Lib.hid (f0.other (j := 1) (u := .string W1) (show B ≠ B + 1 by omega))
  have hB := hB.setCell (p := ⟨B + 1, 1, none⟩) (show B ≤ B + 1 by omega) (.string W1)
  clear f0 f1
  go_wp2_with fail
  obtain ⟨wa, hwa⟩ : ∃ wa, w1.setCell ⟨B + 1, 1, none⟩ (.string W1) = wa := ⟨_, rfl⟩
  rw [hwa] at F1' F0' hB
  rw [hwa]
  clear hwa g1 z1
  refine (C2.out _).mono ?_
  rintro e w2 ⟨rfl, rfl⟩
  have F1' : Hid (Five w2 (B + 1) #[.bool false, .string W1, .string ⟨#[]⟩, .int .i64 0, .int .i64 0] 105) := F1'
  obtain ⟨q0, q1, q2, q3, q4, y0, y1, y2, y3, y4⟩ := F1'.out.all
  obtain ⟨r0, r1, r2, r3, r4, x0, x1, x2, x3, x4⟩ := F0'.out.all
  go_wp2_with fail
  refine (C4.out _).mono ?_
  rintro e w4 ⟨rfl, hn⟩
  have f1 := F1'.out.below hn
  have f0 := F0'.out.below hn
  have hB := hB.trans (hn.mono (show B ≤ (w2).heap.size by have := hB.size; omega))
  clear hn F1' F0' q0 q1 q2 q3 q4 y0 y1 y2 y3 y4 r0 r1 r2 r3 r4 x0 x1 x2 x3 x4
  obtain ⟨g0, g1, g2, g3, g4, -, -, -, z3, z4⟩ := f1.all
  obtain ⟨r0, r1, r2, r3, r4, x0, x1, x2, x3, x4⟩ := f0.all
  have F0' := Lib.hid f0
  clear f0 f1
  have hw64 : wrap64 ((s.size : Int) - (R4.size : Int)) = (s.size : Int) - (R4.size : Int) := by unfold wrap64; omega
  go_wp2_with fail
  clear g0 g1 g2 g3 g4 z3 z4 r0 r1 r2 r3 r4 x0 x1 x2 x3 x4
  have hz5 : Five _ B #[.bool false, .string W1, .string ⟨#[]⟩, .int .i64 xe, .int .i64 ((s.size : Int) - (R4.size : Int))] 105 := (((((((F0'.out.other (j := 3) (u := .int .i64 xe) (show B ≠ B + 1 by omega)).other (j := 4) (u := .int .i64 ((s.size : Int) - (R4.size : Int))) (show B ≠ B + 1 by omega)).set (j := 0) (u := .bool false)).set (j := 1) (u := .string W1)).set (j := 2) (u := .string ⟨#[]⟩)).set (j := 3) (u := .int .i64 xe)).set (j := 4) (u := .int .i64 ((s.size : Int) - (R4.size : Int))))
  have hB5 := ((((((hB.setCell (p := ⟨B + 1, 3, none⟩) (show B ≤ B + 1 by omega) (.int .i64 xe)).setCell (p := ⟨B + 1, 4, none⟩) (show B ≤ B + 1 by omega) (.int .i64 ((s.size : Int) - (R4.size : Int)))).setCell (p := ⟨B, 0, none⟩) (Nat.le_refl B) (.bool false)).setCell (p := ⟨B, 1, none⟩) (Nat.le_refl B) (.string W1)).setCell (p := ⟨B, 2, none⟩) (Nat.le_refl B) (.string ⟨#[]⟩)).setCell (p := ⟨B, 3, none⟩) (Nat.le_refl B) (.int .i64 xe)).setCell (p := ⟨B, 4, none⟩) (Nat.le_refl B) (.int .i64 ((s.size : Int) - (R4.size : Int)))
  obtain ⟨wz, hwz⟩ : ∃ wz, ((((((w4.setCell ⟨B + 1, 3, none⟩ (.int .i64 xe)).setCell ⟨B + 1, 4, none⟩ (.int .i64 ((s.size : Int) - (R4.size : Int)))).setCell ⟨B, 0, none⟩ (.bool false)).setCell ⟨B, 1, none⟩ (.string W1)).setCell ⟨B, 2, none⟩ (.string ⟨#[]⟩)).setCell ⟨B, 3, none⟩ (.int .i64 xe)).setCell ⟨B, 4, none⟩ (.int .i64 ((s.size : Int) - (R4.size : Int))) = wz := ⟨_, rfl⟩
  rw [hwz] at hz5 hB5 ⊢
  obtain ⟨r0, r1, r2, r3, r4, -, -, -, -, -⟩ := hz5.all
  refine bodyPost_ret (v := .agg #[.bool false, .string W1, .string ⟨#[]⟩, .int .i64 xe, .int .i64 ((s.size : Int) - (R4.size : Int))]) (by simp [results, Tryz.results74, go_sem, r0, r1, r2, r3, r4]) rfl ⟨by rw [HZ.out, ← HW1.out]; rfl, by rw [hBB]; exact hB5⟩
/-- The contract of the longest numeral that a text begins with. -/
theorem cutNumeral_any (s : ByteArray) (w : World) (hs : s.size ≤ 4611686018427387904) :
    Calls Tryz.prog 74 #[.string s] w (NumEnd w (numL s.data.toList)) := by
  by_cases hz : (numP s.data.toList).1 = [] ∧ (numP s.data.toList).2.1 = []
  · by_cases hr : (s.data.toList.dropWhile isD).head? = some 46
    · obtain ⟨r, e⟩ : ∃ r, s.data.toList.dropWhile isD = 46 :: r := by
        cases h : s.data.toList.dropWhile isD with
        | nil => rw [h] at hr; cases hr
        | cons a b => rw [h] at hr; cases hr; exact ⟨b, rfl⟩
      exact cutNumeral_point_no s w hs r e hz
    · exact cutNumeral_none_no s w hs hr hz
  · by_cases hr : (s.data.toList.dropWhile isD).head? = some 46
    · obtain ⟨r, e⟩ : ∃ r, s.data.toList.dropWhile isD = 46 :: r := by
        cases h : s.data.toList.dropWhile isD with
        | nil => rw [h] at hr; cases hr
        | cons a b => rw [h] at hr; cases hr; exact ⟨b, rfl⟩
      exact cutNumeral_point_yes s w hs r e hz
    · exact cutNumeral_none_yes s w hs hr hz
end Go.Proofs.YtddfigbpckhfbaaGreatDoor

namespace Go.Proofs.YtddfigbpckhfbaaGreatDoor
open Go.RowKit Go.Lib

def noBlanks (l : List UInt8) : List UInt8 := l.dropWhile ([32, 9, 10].contains ·)
set_option maxRecDepth 100000 in
theorem set_zero (w : World) : (zeroValue (Tryz.lays161_ren.t 116)).run Tryz.prog w = .ok (.agg (Array.replicate 256 (.bool false))) w := by
  kernel_rfl
set_option maxRecDepth 100000 in
theorem set_info : (Tryz.prog.info? (Tryz.lays161_ren.t 116)).map (·.size) = some 256 := by kernel_rfl
set_option maxRecDepth 100000 in
set_option maxHeartbeats 4000000 in
theorem blanks_any (s : ByteArray) (w : World) :
    Calls Tryz.prog 75 #[.string s, .string ⟨#[32, 9, 10]⟩] w fun e w' => e = .returned (.string ⟨(noBlanks s.data.toList).toArray⟩) ∧ Below w.heap.size w w' := by
  rcases Nat.eq_zero_or_pos s.size with h | h
  · have h1 := ba_nil h
    obtain rfl : s = ⟨#[]⟩ := by
      cases s with | mk d => congr 1; exact Array.toList_inj.1 h1
    go_enter Tryz.func75, Tryz.ntmps75
    go_wp2_with fail
    go_ret
    exact ⟨rfl, Below.refl _ _⟩
  · refine (Any.strings_TrimLeft_set Tryz.lays161 set_zero set_info s ⟨#[32, 9, 10]⟩ w (by decide) h (by decide) ?_).mono ?_
    · intro j b hb
      have hm : b ∈ ([32, 9, 10] : List UInt8) := List.mem_of_getElem? hb
      have : ∀ b ∈ ([32, 9, 10] : List UInt8), b.toNat < 128 := by decide
      exact this b hm
    · rintro e w' ⟨rfl, rfl⟩
      exact ⟨rfl, ((Below.refl w.heap.size w).alloc (Nat.le_refl _) _).alloc (by simp) _⟩
end Go.Proofs.YtddfigbpckhfbaaGreatDoor

namespace Go.Proofs.YtddfigbpckhfbaaGreatDoor
open Go.RowKit Go.Lib

theorem noBlanks_len (l : List UInt8) : (noBlanks l).length ≤ l.length := (List.dropWhile_suffix _).length_le
theorem numL_bd (l : List UInt8) : 0 ≤ (numL l).2.2.2 ∧ (numL l).2.2.2 ≤ l.length := by
  unfold numL
  split
  · exact ⟨by simp, by simp⟩
  · have h1 := (expL_bd (numP l).2.2).2.2
    have h2 : (numP l).2.2.length ≤ l.length := by
      have a := (List.dropWhile_suffix (l := l) isD).length_le
      unfold numP
      split
      · rename_i r e
        rw [e, List.length_cons] at a
        have b := (List.dropWhile_suffix (l := r) isD).length_le
        exact Nat.le_trans b (by omega)
      · exact a
    simp only
    omega
def sigR (l : List UInt8) : List UInt8 := (sgnL (noBlanks l)).2
/-- The numeral that a text begins with, blanks and a sign ahead of it. -/
def sigL (l : List UInt8) : Bool × List UInt8 × List UInt8 × Int × Int :=
  if (numL (sigR l)).2.2.2 = 0 then (false, numL (sigR l))
  else ((sgnL (noBlanks l)).1, (numL (sigR l)).1, (numL (sigR l)).2.1, (numL (sigR l)).2.2.1, (numL (sigR l)).2.2.2 + ((l.length : Int) - ((sigR l).length : Int)))
def SigEnd (w : World) (x : Bool × List UInt8 × List UInt8 × Int × Int) (e : Ending) (w' : World) : Prop := e = .returned (numV x.1 x.2) ∧ Below w.heap.size w w'
set_option maxRecDepth 100000 in
set_option maxHeartbeats 4000000 in
theorem cutSigned_any (s : ByteArray) (w : World) (hs : s.size ≤ 4611686018427387904) :
    Calls Tryz.prog 71 #[.string s] w (SigEnd w (sigL s.data.toList)) := by
  obtain ⟨l, hl⟩ : ∃ l, s.data.toList = l := ⟨_, rfl⟩
  have hll : l.length = s.size := by rw [← hl, ba_len]
  have c1 := fun W => blanks_any s W
  rw [hl] at c1 ⊢
  obtain ⟨Y, hY⟩ : ∃ Y, sigL l = Y := ⟨_, rfl⟩
  rw [hY]
  unfold sigL sigR at hY
  obtain ⟨m, hm⟩ : ∃ m, noBlanks l = m := ⟨_, rfl⟩
  have hml := noBlanks_len l
  rw [hm] at c1 hml hY
  obtain ⟨M, hM⟩ : ∃ M : ByteArray, (⟨m.toArray⟩ : ByteArray) = M := ⟨_, rfl⟩
  have hMl : M.data.toList = m := by rw [← hM]
  have hMs : M.size = m.length := by rw [← hMl, ba_len]
  rw [hM] at c1
  have c2 := fun W => cutSign_any M W
  rw [hMl] at c2
  have hrl := sgnL_len m
  obtain ⟨bl, hbl⟩ : ∃ bl, (sgnL m).1 = bl := ⟨_, rfl⟩
  obtain ⟨r, hr⟩ : ∃ r, (sgnL m).2 = r := ⟨_, rfl⟩
  rw [hbl, hr] at c2 hY
  rw [hr] at hrl
  obtain ⟨R, hR⟩ : ∃ R : ByteArray, (⟨r.toArray⟩ : ByteArray) = R := ⟨_, rfl⟩
  have hRl : R.data.toList = r := by rw [← hR]
  have hRs : R.size = r.length := by rw [← hRl, ba_len]
  rw [hR] at c2
  have c3 := fun W => cutNumeral_any R W (by omega)
  rw [hRl] at c3
  have hxb := numL_bd r
  obtain ⟨X1, X2, xe, xz, hX⟩ : ∃ a b c d, numL r = (a, b, c, d) := ⟨_, _, _, _, rfl⟩
  rw [hX] at c3 hxb hY
  unfold NumEnd numV at c3
  obtain ⟨D1, hD1⟩ : ∃ D1 : ByteArray, (⟨X1.toArray⟩ : ByteArray) = D1 := ⟨_, rfl⟩
  obtain ⟨D2, hD2⟩ : ∃ D2 : ByteArray, (⟨X2.toArray⟩ : ByteArray) = D2 := ⟨_, rfl⟩
  change 0 ≤ xz ∧ xz ≤ r.length at hxb
  change (if xz = 0 then (false, X1, X2, xe, xz) else (bl, X1, X2, xe, xz + ((l.length : Int) - (r.length : Int)))) = Y at hY
  rw [hll, ← hRs] at hY
  have hRS : R.size ≤ s.size := by omega
  have hXR : xz ≤ R.size := by omega
  have hx0 := hxb.1
  change ∀ W : World, Calls Tryz.prog 74 #[.string R] W fun e w' => e = .returned (.agg #[.bool false, .string ⟨X1.toArray⟩, .string ⟨X2.toArray⟩, .int .i64 xe, .int .i64 xz]) ∧ Below W.heap.size W w' at c3
  rw [hD1, hD2] at c3
  have C1 := Lib.hid c1
  have C2 := Lib.hid c2
  have C3 := Lib.hid c3
  have HD1 := Lib.hid hD1
  have HD2 := Lib.hid hD2
  clear c1 c2 c3 hl hll hm hml hM hMl hMs hrl hbl hr hR hRl hRs hxb hX hD1 hD2
  have hb0 := (Below.refl w.heap.size w).alloc (Nat.le_refl _) (.cells #[.bool false, .string ⟨#[]⟩, .string ⟨#[]⟩, .int .i64 0, .int .i64 0] 105)
  have f0 := Five.new w #[.bool false, .string ⟨#[]⟩, .string ⟨#[]⟩, .int .i64 0, .int .i64 0] 105
  go_enter Tryz.func71, Tryz.ntmps71
  go_wp2_with fail
  refine (C1.out _).mono ?_
  rintro e w1 ⟨rfl, hn1⟩
  have f0 := f0.below hn1
  have hb0 := hb0.trans (hn1.mono hb0.size)
  go_wp2_with fail
  refine (C2.out _).mono ?_
  rintro e w2 ⟨rfl, rfl⟩
  go_wp2_with fail
  refine (C3.out _).mono ?_
  rintro e w3 ⟨rfl, hn3⟩
  obtain ⟨B, hBB⟩ : ∃ B, w.heap.size = B := ⟨_, rfl⟩
  rw [hBB] at f0 hb0
  rw [hBB]
  have hB := hb0.trans (hn3.mono (show B ≤ w1.heap.size by have := hb0.size; omega))
  have hBs : B ≤ w3.heap.size := by have := hB.size; omega
  have f0 := (f0.below hn3)
  have hBC : B ≠ w3.heap.size := by have := f0.lt; omega
  have f0 := f0.alloc (.cells #[.bool false, .string D1, .string D2, .int .i64 xe, .int .i64 xz] 105)
  have f1 := Five.new w3 #[.bool false, .string D1, .string D2, .int .i64 xe, .int .i64 xz] 105
  have hB := hB.alloc hBs (.cells #[.bool false, .string D1, .string D2, .int .i64 xe, .int .i64 xz] 105)
  clear hb0 hn1 hn3
  obtain ⟨C, hCC⟩ : ∃ C, w3.heap.size = C := ⟨_, rfl⟩
  rw [hCC] at f1 hBC hBs
  obtain ⟨w4, hw4⟩ : ∃ w4, w3.alloc (.cells #[.bool false, .string D1, .string D2, .int .i64 xe, .int .i64 xz] 105) = w4 := ⟨_, rfl⟩
  rw [hw4] at f0 f1 hB
  obtain ⟨q0, q1, q2, q3, q4, y0, y1, y2, y3, y4⟩ := f1.all
  obtain ⟨r0, r1, r2, r3, r4, x0, x1, x2, x3, x4⟩ := f0.all
  have F0 := Lib.hid f0
  clear f0 f1
  have hCB : ¬ C = B := fun e => hBC e.symm
  have hBC' : ¬ B = C := hBC
  by_cases hz : xz = 0
  · rw [if_pos hz] at hY
    subst hz
    go_wp2_with fail
    have hz5 : Five _ B #[.bool false, .string D1, .string D2, .int .i64 xe, .int .i64 0] 105 := ((((((F0.out.other (j := 4) (u := .int .i64 0) hBC).set (j := 0) (u := .bool false)).set (j := 1) (u := .string D1)).set (j := 2) (u := .string D2)).set (j := 3) (u := .int .i64 xe)).set (j := 4) (u := .int .i64 0))
    have hB5 := ((((((hB.setCell (p := ⟨C, 4, none⟩) hBs (.int .i64 0)).setCell (p := ⟨B, 0, none⟩) (Nat.le_refl B) (.bool false)).setCell (p := ⟨B, 1, none⟩) (Nat.le_refl B) (.string D1)).setCell (p := ⟨B, 2, none⟩) (Nat.le_refl B) (.string D2)).setCell (p := ⟨B, 3, none⟩) (Nat.le_refl B) (.int .i64 xe)).setCell (p := ⟨B, 4, none⟩) (Nat.le_refl B) (.int .i64 0))
    obtain ⟨wz, hwz⟩ : ∃ wz, ((((((w4.setCell ⟨C, 4, none⟩ (.int .i64 0)).setCell ⟨B, 0, none⟩ (.bool false)).setCell ⟨B, 1, none⟩ (.string D1)).setCell ⟨B, 2, none⟩ (.string D2)).setCell ⟨B, 3, none⟩ (.int .i64 xe)).setCell ⟨B, 4, none⟩ (.int .i64 0)) = wz := ⟨_, rfl⟩
    rw [hwz] at hz5 hB5 ⊢
    clear q0 q1 q2 q3 q4 y0 y1 y2 y3 y4 r0 r1 r2 r3 r4 x0 x1 x2 x3 x4 hCB hBC' hCC hw4 hwz
    obtain ⟨r0, r1, r2, r3, r4, -, -, -, -, -⟩ := hz5.all
    refine bodyPost_ret (v := .agg #[.bool false, .string D1, .string D2, .int .i64 xe, .int .i64 0]) (by simp [results, Tryz.results71, go_sem, r0, r1, r2, r3, r4]) rfl ⟨by rw [← hY, ← HD1.out, ← HD2.out]; rfl, by rw [hBB]; exact hB5⟩
  · have hz2 : (xz == 0) = false := beq_eq_false_iff_ne.2 hz
    rw [if_neg hz] at hY
    have ha : wrap64 ((s.size : Int) - (R.size : Int)) = (s.size : Int) - (R.size : Int) := by unfold wrap64; omega
    have hb : wrap64 (xz + ((s.size : Int) - (R.size : Int))) = xz + ((s.size : Int) - (R.size : Int)) := by unfold wrap64; omega
    go_wp2_with fail
    have hz5 : Five _ B #[.bool bl, .string D1, .string D2, .int .i64 xe, .int .i64 (xz + ((s.size : Int) - (R.size : Int)))] 105 := (((((((F0.out.other (j := 0) (u := .bool bl) hBC).other (j := 4) (u := .int .i64 (xz + ((s.size : Int) - (R.size : Int)))) hBC).set (j := 0) (u := .bool bl)).set (j := 1) (u := .string D1)).set (j := 2) (u := .string D2)).set (j := 3) (u := .int .i64 xe)).set (j := 4) (u := .int .i64 (xz + ((s.size : Int) - (R.size : Int)))))
    have hB5 := (((((((hB.setCell (p := ⟨C, 0, none⟩) hBs (.bool bl)).setCell (p := ⟨C, 4, none⟩) hBs (.int .i64 (xz + ((s.size : Int) - (R.size : Int))))).setCell (p := ⟨B, 0, none⟩) (Nat.le_refl B) (.bool bl)).setCell (p := ⟨B, 1, none⟩) (Nat.le_refl B) (.string D1)).setCell (p := ⟨B, 2, none⟩) (Nat.le_refl B) (.string D2)).setCell (p := ⟨B, 3, none⟩) (Nat.le_refl B) (.int .i64 xe)).setCell (p := ⟨B, 4, none⟩) (Nat.le_refl B) (.int .i64 (xz + ((s.size : Int) - (R.size : Int)))))
    obtain ⟨wz, hwz⟩ : ∃ wz, (((((((w4.setCell ⟨C, 0, none⟩ (.bool bl)).setCell ⟨C, 4, none⟩ (.int .i64 (xz + ((s.size : Int) - (R.size : Int))))).setCell ⟨B, 0, none⟩ (.bool bl)).setCell ⟨B, 1, none⟩ (.string D1)).setCell ⟨B, 2, none⟩ (.string D2)).setCell ⟨B, 3, none⟩ (.int .i64 xe)).setCell ⟨B, 4, none⟩ (.int .i64 (xz + ((s.size : Int) - (R.size : Int))))) = wz := ⟨_, rfl⟩
    rw [hwz] at hz5 hB5 ⊢
    clear q0 q1 q2 q3 q4 y0 y1 y2 y3 y4 r0 r1 r2 r3 r4 x0 x1 x2 x3 x4 hCB hBC' hCC hw4 hwz
    obtain ⟨r0, r1, r2, r3, r4, -, -, -, -, -⟩ := hz5.all
    refine bodyPost_ret (v := .agg #[.bool bl, .string D1, .string D2, .int .i64 xe, .int .i64 (xz + ((s.size : Int) - (R.size : Int)))]) (by simp [results, Tryz.results71, go_sem, r0, r1, r2, r3, r4]) rfl ⟨by rw [← hY, ← HD1.out, ← HD2.out]; rfl, by rw [hBB]; exact hB5⟩
end Go.Proofs.YtddfigbpckhfbaaGreatDoor

namespace Go.Proofs.YtddfigbpckhfbaaGreatDoor
open Go.RowKit Go.Lib

/-- A float with its sign turned, if so told. -/
def turned (b : Bool) (r : Nat) : Nat := if b then Op.negFloat .f64 r else r
theorem run_neg (P : Program) (r : Nat) (w : World) : (Op.unary .neg (.float .f64 r)).run P w = .ok (.float .f64 (Op.negFloat .f64 r)) w := rfl
def ValEnd (b : Bool) (w : World) (X D : Nat) (e : Ending) (w' : World) : Prop := ∃ r, e = .returned (.float .f64 (turned b r)) ∧ Hid (Near X D r) ∧ Below w.heap.size w w'
theorem pv_trim (l : List UInt8) : pv (l.dropWhile (· == 48)) = pv l := by
  induction l with
  | nil => rfl
  | cons a t ih =>
    rw [List.dropWhile_cons]
    split
    · rename_i h
      rw [ih, pv_cons, show a = 48 from eq_of_beq h]
      simp
    · rfl
theorem dec_trim {l : List UInt8} (h : Dec l) : Dec (l.dropWhile (· == 48)) := fun c hc => h c ((List.dropWhile_suffix (· == 48)).subset hc)
set_option maxRecDepth 100000 in
set_option maxHeartbeats 4000000 in
theorem value_short (b : Bool) (A F : ByteArray) (x z : Int) (n : Nat) (y : Int) (w : World) (hx0 : -1099511627776 ≤ x) (hx1 : x ≤ 100000) (hs : A.size + F.size ≤ 140737488355328)
    (hd : Dec (A.data.toList ++ F.data.toList)) (hl : ((A.data.toList ++ F.data.toList).dropWhile (· == 48)).length ≤ 1022) (hn : pv (A.data.toList ++ F.data.toList) = n) (hy : x - (F.size : Int) = y) :
    Calls Tryz.prog 72 #[.agg #[.bool b, .string A, .string F, .int .i64 x, .int .i64 z]] w (ValEnd b w (2 * (n * 10 ^ y.toNat) * S1074) (10 ^ (-y).toNat)) := by
  have cT := fun W => Tryz.strings_TrimLeft_one (A ++ F) 48 (by decide) W
  rw [show (A ++ F).data.toList = A.data.toList ++ F.data.toList by simp] at cT
  unfold Lib.trimLeftB at cT
  obtain ⟨T, hT⟩ : ∃ T, (A.data.toList ++ F.data.toList).dropWhile (· == 48) = T := ⟨_, rfl⟩
  have hTd : Dec T := by rw [← hT]; exact dec_trim hd
  have hTn : pv T = n := by rw [← hT, pv_trim]; exact hn
  rw [hT] at cT hl
  obtain ⟨G, hG⟩ : ∃ G : ByteArray, (⟨T.toArray⟩ : ByteArray) = G := ⟨_, rfl⟩
  have hGl : G.data.toList = T := by rw [← hG]
  have hGs : G.size ≤ 1022 := by rw [← ba_len, hGl]; exact hl
  rw [hG] at cT
  have hGG : ((⟨#[48]⟩ : ByteArray) ++ G).data.toList = 48 :: T := by simp [hGl]
  have cR := fun W => read_end (⟨#[48]⟩ ++ G) n y W (by rw [← ba_len, hGG, List.length_cons]; omega) (isDec_iff.2 (by exact ⟨by rw [← ba_len, hGG, List.length_cons]; omega, fun c hc => by
    rw [hGG] at hc
    rcases List.mem_cons.1 hc with rfl | h
    · decide
    · exact hTd c h⟩)) (by rw [hGG, pv_cons, hTn]; simp)
  have CT := Lib.hid cT
  have CR := Lib.hid cR
  have hw64 : wrap64 y = y := by unfold wrap64; omega
  have hc1 : ¬ 9223372036854775807 < A.size + F.size := by omega
  have hc2 : ¬ 9223372036854775807 < (⟨#[48]⟩ : ByteArray).size + G.size := by change ¬ 9223372036854775807 < 1 + G.size; omega
  have hc3 : ¬ 9223372036854775807 < 1 + G.size := by omega
  have hc4 : ¬ (1022 : Int) < (G.size : Int) := by omega
  clear cT cR hd hl hn hT hTd hTn hG hGl hGG hx0 hx1 hs
  have hb0 := (Below.refl w.heap.size w).alloc (Nat.le_refl _) (.cells #[.bool b, .string A, .string F, .int .i64 x, .int .i64 z] 105)
  have f0 := Five.new w #[.bool b, .string A, .string F, .int .i64 x, .int .i64 z] 105
  go_enter Tryz.func72, Tryz.ntmps72
  go_wp2_with fail
  refine (CT.out _).mono ?_
  rintro e w1 ⟨rfl, rfl⟩
  obtain ⟨B, hBB⟩ : ∃ B, w.heap.size = B := ⟨_, rfl⟩
  obtain ⟨wa, hwa⟩ : ∃ wa, w.alloc (.cells #[.bool b, .string A, .string F, .int .i64 x, .int .i64 z] 105) = wa := ⟨_, rfl⟩
  rw [hwa] at f0 hb0
  rw [hwa]
  rw [hBB] at f0 hb0
  rw [hBB]
  clear hwa
  obtain ⟨q0, -, q2, q3, -, -, -, -, -, -⟩ := f0.all
  go_wp2_with fail
  refine (CR.out _).mono ?_
  rintro e w2 ⟨r, rfl, hr, hn⟩
  have f2 := f0.below hn
  have hB := hb0.trans (hn.mono (show B ≤ wa.heap.size by have := hb0.size; omega))
  clear f0 hb0 hn q0 q2 q3
  obtain ⟨q0, -⟩ := f2.all
  cases b
  · go_wp2_with fail
    exact bodyPost_ret (v := .float .f64 (turned false r)) (by simp [results, Tryz.results72, go_sem, turned]) rfl ⟨r, rfl, hr, by rw [hBB]; exact hB⟩
  · go_wp2_with (simp only [run_neg])
    exact bodyPost_ret (v := .float .f64 (turned true r)) (by simp [results, Tryz.results72, go_sem, turned]) rfl ⟨r, rfl, hr, by rw [hBB]; exact hB⟩
end Go.Proofs.YtddfigbpckhfbaaGreatDoor

namespace Go.Proofs.YtddfigbpckhfbaaGreatDoor

theorem mid_form {r : Nat} (h : r < 9218868437227405312) : ∃ A e, V r + V (r + 1) = A * 2 ^ e ∧ A < 18014398509481984 ∧ e ≤ 2045 := by
  have h1 := V_succ r
  unfold U at h1
  by_cases h2 : r < 4503599627370496
  · refine ⟨2 * r + 1, 0, ?_, by omega, by omega⟩
    rw [show r / 4503599627370496 - 1 = 0 by omega] at h1
    have h3 : V r = r := by unfold V; rw [if_pos h2]
    rw [h1, h3, Nat.pow_zero]
    omega
  · refine ⟨2 * (4503599627370496 + r % 4503599627370496) + 1, r / 4503599627370496 - 1, ?_, by omega, by omega⟩
    have h3 : V r = (4503599627370496 + r % 4503599627370496) * 2 ^ (r / 4503599627370496 - 1) := by unfold V; rw [if_neg h2]
    rw [h1, h3, ← Nat.add_assoc, ← Nat.add_mul, ← Nat.succ_mul]
    congr 1
    omega
def Z1024 : Nat := 2 ^ 1024
theorem big1 : Z1024 ≤ 10 ^ 768 := by decide +kernel
theorem big2 : 18014398509481984 * 5 ^ 1074 ≤ 10 ^ 768 := by decide +kernel
theorem big3 : 18014398509481984 * 2 ^ 2045 ≤ Z1024 * 2 ^ 1075 := by decide +kernel
/-- No middle of two floats lies strictly between two numbers of so many digits. -/
theorem no_mid {A e P : Nat} {y : Int} (c t : Nat) (hc : c = 1075) (ht : t = 768) (hA : A < 18014398509481984) (he : e ≤ 2045) (hP : 10 ^ t ≤ P) :
    A * 2 ^ e * 10 ^ (-y).toNat ≤ P * 10 ^ y.toNat * 2 ^ c ∨ (P + 1) * 10 ^ y.toNat * 2 ^ c ≤ A * 2 ^ e * 10 ^ (-y).toNat := by
  rcases Int.lt_or_le y 0 with hy | hy
  · rw [show y.toNat = 0 by omega, Nat.pow_zero, Nat.mul_one, Nat.mul_one]
    obtain ⟨J, hJ⟩ : ∃ J, (-y).toNat = J := ⟨_, rfl⟩
    rw [hJ, show (10 : Nat) = 5 * 2 from rfl, Nat.mul_pow]
    have e1 : A * 2 ^ e * (5 ^ J * 2 ^ J) = A * 5 ^ J * 2 ^ (e + J) := by rw [Nat.pow_add]; ac_rfl
    rw [e1]
    rcases Nat.lt_or_ge (e + J) c with h | h
    · left
      have b : A * 5 ^ J ≤ 10 ^ t := by
        refine Nat.le_trans (Nat.mul_le_mul (Nat.le_of_lt hA) (Nat.pow_le_pow_right (by omega) (show J ≤ 1074 by omega))) ?_
        rw [ht]
        exact big2
      exact Nat.mul_le_mul (Nat.le_trans b hP) (Nat.pow_le_pow_right (by omega) (by omega))
    · rw [show 2 ^ (e + J) = 2 ^ (e + J - c) * 2 ^ c by rw [← Nat.pow_add]; congr 1; omega, ← Nat.mul_assoc]
      rcases Nat.lt_or_ge P (A * 5 ^ J * 2 ^ (e + J - c)) with h2 | h2
      · right; exact Nat.mul_le_mul_right _ h2
      · left; exact Nat.mul_le_mul_right _ h2
  · left
    rw [show (-y).toNat = 0 by omega, Nat.pow_zero, Nat.mul_one]
    have b1 : A * 2 ^ e ≤ Z1024 * 2 ^ c := by
      refine Nat.le_trans (Nat.mul_le_mul (Nat.le_of_lt hA) (Nat.pow_le_pow_right (by omega) he)) ?_
      rw [hc]
      exact big3
    have b2 : Z1024 ≤ P := by
      refine Nat.le_trans ?_ hP
      rw [ht]
      exact big1
    exact Nat.le_trans b1 (Nat.mul_le_mul_right _ (Nat.le_trans b2 (Nat.le_mul_of_pos_right _ (Nat.pow_pos (by omega)))))
/-- Two numbers on the same side of every middle have the same nearest float. -/
theorem Near.move {X D X' D' r : Nat} (hM : ∀ q, q < 9218868437227405312 → ((V q + V (q + 1)) * D < X ∧ (V q + V (q + 1)) * D' < X') ∨ (X < (V q + V (q + 1)) * D ∧ X' < (V q + V (q + 1)) * D')) (h : Near X D r) : Near X' D' r := by
  have ht := h.top
  refine ⟨fun q e => ?_, fun q e g => ?_, fun k => ?_, fun k g => ?_, ht⟩
  · have a := h.lo q e
    subst e
    rcases hM q (by omega) with b | b <;> omega
  · have a := h.lo q e
    subst e
    rcases hM q (by omega) with b | b <;> omega
  · have a := h.hi k
    rcases hM r k with b | b <;> omega
  · have a := h.hi k
    rcases hM r k with b | b <;> omega
/-- Digits behind the kept ones: the value lies strictly between two neighbours. -/
theorem cut_in {P n k c : Nat} {y j : Int} (hj : j = y + k) (h1 : P * 10 ^ k < n) (h2 : n < (P + 1) * 10 ^ k) :
    P * 10 ^ j.toNat * 2 ^ c * 10 ^ (-y).toNat < n * 10 ^ y.toNat * 2 ^ c * 10 ^ (-j).toNat ∧ n * 10 ^ y.toNat * 2 ^ c * 10 ^ (-j).toNat < (P + 1) * 10 ^ j.toNat * 2 ^ c * 10 ^ (-y).toNat := by
  have e : 10 ^ j.toNat * 10 ^ (-y).toNat = 10 ^ k * (10 ^ y.toNat * 10 ^ (-j).toNat) := by
    rw [← Nat.pow_add, ← Nat.pow_add, ← Nat.pow_add]
    congr 1
    omega
  have e2 : ∀ Q, Q * 10 ^ j.toNat * 2 ^ c * 10 ^ (-y).toNat = Q * 10 ^ k * (10 ^ y.toNat * 10 ^ (-j).toNat * 2 ^ c) := fun Q => by
    calc Q * 10 ^ j.toNat * 2 ^ c * 10 ^ (-y).toNat = Q * 2 ^ c * (10 ^ j.toNat * 10 ^ (-y).toNat) := by ac_rfl
      _ = Q * 2 ^ c * (10 ^ k * (10 ^ y.toNat * 10 ^ (-j).toNat)) := by rw [e]
      _ = Q * 10 ^ k * (10 ^ y.toNat * 10 ^ (-j).toNat * 2 ^ c) := by ac_rfl
  have e3 : n * 10 ^ y.toNat * 2 ^ c * 10 ^ (-j).toNat = n * (10 ^ y.toNat * 10 ^ (-j).toNat * 2 ^ c) := by ac_rfl
  have p : 0 < 10 ^ y.toNat * 10 ^ (-j).toNat * 2 ^ c := Nat.mul_pos (Nat.mul_pos (Nat.pow_pos (by omega)) (Nat.pow_pos (by omega))) (Nat.pow_pos (by omega))
  rw [e2, e2, e3]
  exact ⟨Nat.mul_lt_mul_of_pos_right h1 p, Nat.mul_lt_mul_of_pos_right h2 p⟩
theorem side_lo {M a b L X : Nat} (h : M * a ≤ L) (h2 : L * b < X * a) : M * b < X := by
  have h3 : M * a * b ≤ L * b := Nat.mul_le_mul_right _ h
  rw [Nat.mul_right_comm] at h3
  exact Nat.lt_of_mul_lt_mul_right (Nat.lt_of_le_of_lt h3 h2)
theorem side_hi {M a b L X : Nat} (h : L ≤ M * a) (h2 : X * a < L * b) : X < M * b := by
  have h3 : L * b ≤ M * a * b := Nat.mul_le_mul_right _ h
  rw [Nat.mul_right_comm] at h3
  exact Nat.lt_of_mul_lt_mul_right (Nat.lt_of_lt_of_le h2 h3)
/-- Of two numbers with the same 769 digits ahead and something behind them the nearest floats are the same. -/
theorem near_cut {P n n' k k' r t : Nat} {y y' : Int} (ht : t = 768) (hP : 10 ^ t ≤ P) (hy : y + k = y' + k') (h1 : P * 10 ^ k < n) (h2 : n < (P + 1) * 10 ^ k) (h1' : P * 10 ^ k' < n') (h2' : n' < (P + 1) * 10 ^ k')
    (h : Near (2 * (n * 10 ^ y.toNat) * S1074) (10 ^ (-y).toNat) r) : Near (2 * (n' * 10 ^ y'.toNat) * S1074) (10 ^ (-y').toNat) r := by
  obtain ⟨c, hc⟩ : ∃ c : Nat, c = 1075 := ⟨_, rfl⟩
  have hS : 2 * S1074 = 2 ^ c := by rw [S_eq (c - 1) (by omega), ← Nat.pow_succ']; congr 1; omega
  have e1 : ∀ (m : Nat) (x : Int), 2 * (m * 10 ^ x.toNat) * S1074 = m * 10 ^ x.toNat * 2 ^ c := fun m x => by rw [← hS]; generalize S1074 = z; ac_rfl
  rw [e1] at h ⊢
  obtain ⟨j, hj⟩ : ∃ j : Int, j = y + k := ⟨_, rfl⟩
  have a := cut_in (c := c) hj h1 h2
  have a' := cut_in (c := c) (hj.trans hy) h1' h2'
  exact h.move fun q hq => by
    obtain ⟨A, e, hM, hA, he⟩ := mid_form hq
    rw [hM]
    rcases no_mid (y := j) c t hc ht hA he hP with b | b
    · exact Or.inl ⟨side_lo b a.1, side_lo b a'.1⟩
    · exact Or.inr ⟨side_hi b a.2, side_hi b a'.2⟩
/-- Of two fractions that are one number the nearest floats are the same. -/
theorem Near.conv {X D X' D' r : Nat} (hD : 0 < D) (e : X * D' = X' * D) (h : Near X D r) (hD' : 0 < D') : Near X' D' r := by
  have L : ∀ M, M * D ≤ X → M * D' ≤ X' := fun M g => by
    have g1 : M * D * D' ≤ X * D' := Nat.mul_le_mul_right _ g
    rw [e, Nat.mul_right_comm] at g1
    exact Nat.le_of_mul_le_mul_right g1 hD
  have R : ∀ M, X ≤ M * D → X' ≤ M * D' := fun M g => by
    have g1 : X * D' ≤ M * D * D' := Nat.mul_le_mul_right _ g
    rw [e, Nat.mul_right_comm] at g1
    exact Nat.le_of_mul_le_mul_right g1 hD
  have E : ∀ M, M * D' = X' → M * D = X := fun M g => by
    rw [← g, Nat.mul_right_comm] at e
    exact (Nat.eq_of_mul_eq_mul_right hD' e).symm
  exact ⟨fun q g => L _ (h.lo q g), fun q g k => h.loe q g (E _ k), fun g => R _ (h.hi g), fun g k => h.hie g (E _ k.symm).symm, h.top⟩
/-- Noughts behind the kept digits. -/
theorem near_noughts {P n k r : Nat} {y j : Int} (hj : j = y + k) (hn : n = P * 10 ^ k) (h : Near (2 * (P * 10 ^ j.toNat) * S1074) (10 ^ (-j).toNat) r) : Near (2 * (n * 10 ^ y.toNat) * S1074) (10 ^ (-y).toNat) r := by
  have e : 10 ^ j.toNat * 10 ^ (-y).toNat = 10 ^ k * (10 ^ y.toNat * 10 ^ (-j).toNat) := by
    rw [← Nat.pow_add, ← Nat.pow_add, ← Nat.pow_add]
    congr 1
    omega
  refine h.conv (Nat.pow_pos (by omega)) ?_ (Nat.pow_pos (by omega))
  rw [hn]
  generalize S1074 = z
  calc 2 * (P * 10 ^ j.toNat) * z * 10 ^ (-y).toNat = 2 * P * z * (10 ^ j.toNat * 10 ^ (-y).toNat) := by ac_rfl
    _ = 2 * P * z * (10 ^ k * (10 ^ y.toNat * 10 ^ (-j).toNat)) := by rw [e]
    _ = 2 * (P * 10 ^ k * 10 ^ y.toNat) * z * 10 ^ (-j).toNat := by ac_rfl
/-- Digits without a nought ahead make a great number. -/
theorem pv_ge {c : UInt8} {l : List UInt8} (hd : Dec (c :: l)) (h0 : c ≠ 48) : 10 ^ l.length ≤ pv (c :: l) := by
  rw [pv_cons]
  have h1 := hd c (by simp)
  have h2 : c.toNat ≠ 48 := fun e => h0 (UInt8.toNat_inj.1 e)
  exact Nat.le_trans (Nat.le_mul_of_pos_left _ (show 0 < c.toNat - 48 by omega)) (Nat.le_add_right _ _)
theorem trim_head {l : List UInt8} {c : UInt8} {t : List UInt8} (h : l.dropWhile (· == 48) = c :: t) : c ≠ 48 := by
  intro e
  have := List.head?_dropWhile_not (· == (48 : UInt8)) l
  rw [h] at this
  simp [e] at this
end Go.Proofs.YtddfigbpckhfbaaGreatDoor

namespace Go.Proofs.YtddfigbpckhfbaaGreatDoor
open Go.RowKit Go.Lib

theorem ksize_hide (K : ByteArray) (h : K.size = 1022) : (⟨#[48]⟩ ++ K : ByteArray).size = 1023 := by rw [ByteArray.size_append]; change 1 + K.size = 1023; omega
theorem pv_zero_iff {l : List UInt8} (hd : Dec l) (h : l.dropWhile (· == 48) ≠ []) : 0 < pv l := by
  rw [← pv_trim]
  cases hl : l.dropWhile (· == 48) with
  | nil => exact absurd hl h
  | cons c t => exact Nat.lt_of_lt_of_le (Nat.pow_pos (by omega)) (pv_ge (by rw [← hl]; exact dec_trim hd) (trim_head hl))
set_option maxRecDepth 100000 in
set_option maxHeartbeats 4000000 in
theorem value_long (b : Bool) (A F : ByteArray) (x z : Int) (n : Nat) (y : Int) (w : World) (hx0 : -1099511627776 ≤ x) (hx1 : x ≤ 100000) (hs : A.size + F.size ≤ 140737488355328)
    (hd : Dec (A.data.toList ++ F.data.toList)) (hl : 1022 < ((A.data.toList ++ F.data.toList).dropWhile (· == 48)).length) (hn : pv (A.data.toList ++ F.data.toList) = n) (hy : x - (F.size : Int) = y) :
    Calls Tryz.prog 72 #[.agg #[.bool b, .string A, .string F, .int .i64 x, .int .i64 z]] w (ValEnd b w (2 * (n * 10 ^ y.toNat) * S1074) (10 ^ (-y).toNat)) := by
  have cT := fun W => Tryz.strings_TrimLeft_one (A ++ F) 48 (by decide) W
  rw [show (A ++ F).data.toList = A.data.toList ++ F.data.toList by simp] at cT
  unfold Lib.trimLeftB at cT
  obtain ⟨T, hT⟩ : ∃ T, (A.data.toList ++ F.data.toList).dropWhile (· == 48) = T := ⟨_, rfl⟩
  have hTd : Dec T := by rw [← hT]; exact dec_trim hd
  have hTn : pv T = n := by rw [← hT, pv_trim]; exact hn
  have hTl : T.length ≤ A.size + F.size := by
    rw [← hT, ← ba_len A, ← ba_len F, ← List.length_append]
    exact (List.dropWhile_suffix _).length_le
  have hT0 : ∀ c t, T = c :: t → c ≠ 48 := fun c t e => trim_head (hT.trans e)
  rw [hT] at cT hl
  obtain ⟨G, hG⟩ : ∃ G : ByteArray, (⟨T.toArray⟩ : ByteArray) = G := ⟨_, rfl⟩
  have hGl : G.data.toList = T := by rw [← hG]
  have hGs : T.length = G.size := by rw [← ba_len, hGl]
  rw [hG] at cT
  rw [hGs] at hl hTl
  obtain ⟨K, hK⟩ : ∃ K : ByteArray, G.extract 0 1022 = K := ⟨_, rfl⟩
  obtain ⟨L, hL⟩ : ∃ L : ByteArray, G.extract 1022 G.size = L := ⟨_, rfl⟩
  have hKs : K.size = 1022 := by rw [← hK, ByteArray.size_extract]; omega
  have hLs : L.size = G.size - 1022 := by rw [← hL, ByteArray.size_extract]; omega
  have hKl : K.data.toList = T.take 1022 := by rw [← hK, Lib.extract_data, List.drop_zero, Nat.sub_zero, hGl]
  have hLl : L.data.toList = T.drop 1022 := by rw [← hL, Lib.extract_data, hGl, List.take_of_length_le (by rw [List.length_drop]; omega)]
  have hKd : Dec K.data.toList := fun c hc => hTd c (List.take_subset _ _ (hKl ▸ hc))
  have hLd : Dec L.data.toList := fun c hc => hTd c (List.drop_subset _ _ (hLl ▸ hc))
  have hsum : n = pv K.data.toList * 10 ^ L.size + pv L.data.toList := by
    rw [← hTn, ← ba_len L, hKl, hLl, ← pv_append, List.take_append_drop]
  have hKP : 10 ^ 1021 ≤ pv K.data.toList := by
    cases h : K.data.toList with
    | nil => have := ba_len K; rw [h, hKs] at this; cases this
    | cons c t =>
      have e := ba_len K
      rw [h, hKs] at e
      rw [List.length_cons] at e
      have h2 := pv_ge (h ▸ hKd) (hT0 c (t ++ T.drop 1022) (by rw [← List.cons_append, ← h, hKl, List.take_append_drop]))
      rw [show t.length = 1021 by omega] at h2
      exact h2
  have cL := fun W => Tryz.strings_TrimLeft_one L 48 (by decide) W
  unfold Lib.trimLeftB at cL
  by_cases hz : L.data.toList.dropWhile (· == 48) = []
  · rw [hz] at cL
    change ∀ W : World, Calls Tryz.prog 75 #[.string L, .string ⟨#[48]⟩] W fun e w' => e = .returned (.string ⟨#[]⟩) ∧ w' = W at cL
    have hL0 : pv L.data.toList = 0 := by rw [← pv_trim, hz]; rfl
    rw [hL0, Nat.add_zero] at hsum
    obtain ⟨P, hP⟩ : ∃ P, pv K.data.toList = P := ⟨_, rfl⟩
    have hGG : ((⟨#[48]⟩ : ByteArray) ++ K).data.toList = 48 :: K.data.toList := by simp
    have cR := fun W => read_end (⟨#[48]⟩ ++ K) P (y + (L.size : Int)) W (by rw [ksize_hide K hKs]; omega) (isDec_iff.2 ⟨by rw [ksize_hide K hKs]; omega, fun c hc => by
      rw [hGG] at hc
      rcases List.mem_cons.1 hc with rfl | h
      · decide
      · exact hKd c h⟩) (by rw [hGG, pv_cons, hP]; simp)
    rw [hP] at hsum hKP
    have HM := Lib.hid (fun r (h : Near (2 * (P * 10 ^ (y + (L.size : Int)).toNat) * S1074) (10 ^ (-(y + (L.size : Int))).toNat) r) => near_noughts (y := y) rfl hsum h)
    have CT := Lib.hid cT
    have CL := Lib.hid cL
    have CR := Lib.hid cR
    have hKsz : ((⟨#[48]⟩ : ByteArray) ++ K).size = 1023 := ksize_hide K hKs
    have hw64 : wrap64 y = y := by unfold wrap64; omega
    have hw64b : wrap64 (y + (L.size : Int)) = y + (L.size : Int) := by unfold wrap64; omega
    have hw64c : wrap64 (y + (L.size : Int) - 1) = y + (L.size : Int) - 1 := by unfold wrap64; omega
    have hc1 : ¬ 9223372036854775807 < A.size + F.size := by omega
    have hc2 : ¬ 9223372036854775807 < (⟨#[48]⟩ : ByteArray).size + K.size := by change ¬ 9223372036854775807 < 1 + K.size; omega
    have hc3 : ¬ 9223372036854775807 < 1 + K.size := by omega
    have hc4 : (1022 : Int) < (G.size : Int) := by omega
    have hc5 : 1022 ≤ G.size := by omega
    have hc6 : (1022 : Int) ≤ (G.size : Int) := by omega
    have hb0 := (Below.refl w.heap.size w).alloc (Nat.le_refl _) (.cells #[.bool b, .string A, .string F, .int .i64 x, .int .i64 z] 105)
    have f0 := Five.new w #[.bool b, .string A, .string F, .int .i64 x, .int .i64 z] 105
    clear cT cL cR hd hl hn hT hTd hTn hG hGl hx0 hx1 hs hTl hT0 hGs hKs hLs hKl hLl hKd hLd hsum hKP hz hL0 hP hGG
    go_enter Tryz.func72, Tryz.ntmps72
    go_wp2_with fail
    refine (CT.out _).mono ?_
    rintro e w1 ⟨rfl, rfl⟩
    obtain ⟨B, hBB⟩ : ∃ B, w.heap.size = B := ⟨_, rfl⟩
    obtain ⟨wa, hwa⟩ : ∃ wa, w.alloc (.cells #[.bool b, .string A, .string F, .int .i64 x, .int .i64 z] 105) = wa := ⟨_, rfl⟩
    rw [hwa] at f0 hb0
    rw [hwa]
    rw [hBB] at f0 hb0
    rw [hBB]
    clear hwa
    obtain ⟨q0, -, q2, q3, -, -, -, -, -, -⟩ := f0.all
    go_wp2_with fail
    refine (CL.out _).mono ?_
    rintro e w1 ⟨rfl, rfl⟩
    go_wp2_with fail
    refine (CR.out _).mono ?_
    rintro e w2 ⟨r, rfl, hr, hn⟩
    have hr' := Lib.hid (HM.out r hr.out)
    have f2 := f0.below hn
    have hB := hb0.trans (hn.mono (show B ≤ w1.heap.size by have := hb0.size; omega))
    clear f0 hb0 hn q0 q2 q3
    obtain ⟨q0, -⟩ := f2.all
    cases b
    · go_wp2_with fail
      exact bodyPost_ret (v := .float .f64 (turned false r)) (by simp [results, Tryz.results72, go_sem, turned]) rfl ⟨r, rfl, hr', by rw [hBB]; exact hB⟩
    · go_wp2_with (simp only [run_neg])
      exact bodyPost_ret (v := .float .f64 (turned true r)) (by simp [results, Tryz.results72, go_sem, turned]) rfl ⟨r, rfl, hr', by rw [hBB]; exact hB⟩
  · obtain ⟨Q, hQ⟩ : ∃ Q : ByteArray, (⟨(L.data.toList.dropWhile (· == 48)).toArray⟩ : ByteArray) = Q := ⟨_, rfl⟩
    rw [hQ] at cL
    have hQl : Q.toList = L.data.toList.dropWhile (· == 48) := by rw [Lib.toList_data, ← hQ]
    have t1 : ¬ Q.toList = [] := by rw [hQl]; exact hz
    have t2 : Q.toList.isEmpty = false := by cases h : Q.toList with | nil => exact absurd h t1 | cons a b => rfl
    have hL0 := pv_zero_iff hLd hz
    have hL1 := pv_lt hLd
    rw [ba_len] at hL1
    obtain ⟨P, hP⟩ : ∃ P, pv K.data.toList = P := ⟨_, rfl⟩
    have hGG : ((⟨#[48]⟩ : ByteArray) ++ (K ++ ⟨#[49]⟩)).data.toList = 48 :: (K.data.toList ++ [49]) := by simp
    have hGZ : ((⟨#[48]⟩ : ByteArray) ++ (K ++ ⟨#[49]⟩)).size = 1024 := by rw [← ba_len, hGG, List.length_cons, List.length_append, ba_len, hKs]; rfl
    have cR := fun W => read_end (⟨#[48]⟩ ++ (K ++ ⟨#[49]⟩)) (P * 10 + 1) (y + (L.size : Int) - 1) W (by rw [hGZ]; omega) (isDec_iff.2 ⟨by rw [hGZ]; omega, fun c hc => by
      rw [hGG] at hc
      rcases List.mem_cons.1 hc with rfl | h
      · decide
      · rcases List.mem_append.1 h with h | h
        · exact hKd c h
        · rw [List.mem_singleton.1 h]; decide⟩) (by rw [hGG, pv_cons, pv_append, hP]; simp [pv])
    rw [hP] at hsum hKP
    have hc7 : ¬ 9223372036854775807 < K.size + (⟨#[49]⟩ : ByteArray).size := by change ¬ 9223372036854775807 < K.size + 1; omega
    have hc8 : ¬ 9223372036854775807 < K.size + 1 := by omega
    have hKe : (K ++ ⟨#[49]⟩ : ByteArray).size = 1023 := by rw [ByteArray.size_append]; change K.size + 1 = 1023; omega
    have hc9 : ¬ 9223372036854775807 < (⟨#[48]⟩ : ByteArray).size + (K ++ ⟨#[49]⟩ : ByteArray).size := by rw [hKe]; decide
    obtain ⟨t, ht⟩ : ∃ t : Nat, t = 768 := ⟨_, rfl⟩
    have hKT : 10 ^ t ≤ P := Nat.le_trans (Nat.pow_le_pow_right (by omega) (show t ≤ 1021 by omega)) hKP
    have HY : y + (L.size : Int) - 1 + ((1 : Nat) : Int) = y + (L.size : Int) := by omega
    have HM := Lib.hid (fun r (h : Near (2 * ((P * 10 + 1) * 10 ^ (y + (L.size : Int) - 1).toNat) * S1074) (10 ^ (-(y + (L.size : Int) - 1)).toNat) r) => near_cut (P := P) (k := 1) (k' := L.size) (n' := n) (y' := y) ht hKT HY (by rw [Nat.pow_one]; exact Nat.lt_succ_self _) (by rw [Nat.pow_one, Nat.succ_mul]; exact Nat.add_lt_add_left (by decide) _) (by rw [hsum]; exact Nat.lt_add_of_pos_right hL0) (by rw [Nat.succ_mul, hsum]; exact Nat.add_lt_add_left hL1 _) h)
    have CT := Lib.hid cT
    have CL := Lib.hid cL
    have CR := Lib.hid cR
    have hKsz : ((⟨#[48]⟩ : ByteArray) ++ K).size = 1023 := ksize_hide K hKs
    have hw64 : wrap64 y = y := by unfold wrap64; omega
    have hw64b : wrap64 (y + (L.size : Int)) = y + (L.size : Int) := by unfold wrap64; omega
    have hw64c : wrap64 (y + (L.size : Int) - 1) = y + (L.size : Int) - 1 := by unfold wrap64; omega
    have hc1 : ¬ 9223372036854775807 < A.size + F.size := by omega
    have hc2 : ¬ 9223372036854775807 < (⟨#[48]⟩ : ByteArray).size + K.size := by change ¬ 9223372036854775807 < 1 + K.size; omega
    have hc3 : ¬ 9223372036854775807 < 1 + K.size := by omega
    have hc4 : (1022 : Int) < (G.size : Int) := by omega
    have hc5 : 1022 ≤ G.size := by omega
    have hc6 : (1022 : Int) ≤ (G.size : Int) := by omega
    have hb0 := (Below.refl w.heap.size w).alloc (Nat.le_refl _) (.cells #[.bool b, .string A, .string F, .int .i64 x, .int .i64 z] 105)
    have f0 := Five.new w #[.bool b, .string A, .string F, .int .i64 x, .int .i64 z] 105
    clear cT cL cR hd hl hn hT hTd hTn hG hGl hx0 hx1 hs hTl hT0 hGs hKs hLs hKl hLl hKd hLd hsum hKP hz hL0 hL1 hP HY hKT ht hGG hGZ hQ hQl hKe hKsz
    go_enter Tryz.func72, Tryz.ntmps72
    go_wp2_with fail
    refine (CT.out _).mono ?_
    rintro e w1 ⟨rfl, rfl⟩
    obtain ⟨B, hBB⟩ : ∃ B, w.heap.size = B := ⟨_, rfl⟩
    obtain ⟨wa, hwa⟩ : ∃ wa, w.alloc (.cells #[.bool b, .string A, .string F, .int .i64 x, .int .i64 z] 105) = wa := ⟨_, rfl⟩
    rw [hwa] at f0 hb0
    rw [hwa]
    rw [hBB] at f0 hb0
    rw [hBB]
    clear hwa
    obtain ⟨q0, -, q2, q3, -, -, -, -, -, -⟩ := f0.all
    go_wp2_with fail
    refine (CL.out _).mono ?_
    rintro e w1 ⟨rfl, rfl⟩
    go_wp2_with fail
    refine (CR.out _).mono ?_
    rintro e w2 ⟨r, rfl, hr, hn⟩
    have hr' := Lib.hid (HM.out r hr.out)
    have f2 := f0.below hn
    have hB := hb0.trans (hn.mono (show B ≤ w1.heap.size by have := hb0.size; omega))
    clear f0 hb0 hn q0 q2 q3
    obtain ⟨q0, -⟩ := f2.all
    cases b
    · go_wp2_with fail
      exact bodyPost_ret (v := .float .f64 (turned false r)) (by simp [results, Tryz.results72, go_sem, turned]) rfl ⟨r, rfl, hr', by rw [hBB]; exact hB⟩
    · go_wp2_with (simp only [run_neg])
      exact bodyPost_ret (v := .float .f64 (turned true r)) (by simp [results, Tryz.results72, go_sem, turned]) rfl ⟨r, rfl, hr', by rw [hBB]; exact hB⟩
/-- The contract of the float nearest to a numeral. -/
theorem value_any (b : Bool) (A F : ByteArray) (x z : Int) (n : Nat) (y : Int) (w : World) (hx0 : -1099511627776 ≤ x) (hx1 : x ≤ 100000) (hs : A.size + F.size ≤ 140737488355328)
    (hd : Dec (A.data.toList ++ F.data.toList)) (hn : pv (A.data.toList ++ F.data.toList) = n) (hy : x - (F.size : Int) = y) :
    Calls Tryz.prog 72 #[.agg #[.bool b, .string A, .string F, .int .i64 x, .int .i64 z]] w (ValEnd b w (2 * (n * 10 ^ y.toNat) * S1074) (10 ^ (-y).toNat)) := by
  rcases Nat.lt_or_ge 1022 ((A.data.toList ++ F.data.toList).dropWhile (· == 48)).length with h | h
  · exact value_long b A F x z n y w hx0 hx1 hs hd h hn hy
  · exact value_short b A F x z n y w hx0 hx1 hs hd h hn hy
end Go.Proofs.YtddfigbpckhfbaaGreatDoor

namespace Go.Proofs.YtddfigbpckhfbaaGreatDoor
open Go.RowKit Go.Lib

theorem dec_nil : Dec [] := fun c hc => absurd hc (by simp)
theorem dec_app {l m : List UInt8} (a : Dec l) (b : Dec m) : Dec (l ++ m) := fun c hc => (List.mem_append.1 hc).elim (a c) (b c)
theorem numP_dec (l : List UInt8) : Dec ((numP l).1 ++ (numP l).2.1) ∧ (numP l).1.length + (numP l).2.1.length ≤ l.length := by
  have e := congrArg List.length (List.takeWhile_append_dropWhile (p := isD) (l := l))
  rw [List.length_append] at e
  unfold numP
  split
  · rename_i r h
    rw [h, List.length_cons] at e
    have a := (List.takeWhile_prefix isD (l := r)).length_le
    exact ⟨dec_app (dec_takeWhile l) (dec_takeWhile r), by simp only; omega⟩
  · exact ⟨dec_app (dec_takeWhile l) dec_nil, by simp only [List.length_nil]; omega⟩
theorem numL_dec (l : List UInt8) : Dec ((numL l).1 ++ (numL l).2.1) ∧ (numL l).1.length + (numL l).2.1.length ≤ l.length ∧ -1099511627776 ≤ (numL l).2.2.1 ∧ (numL l).2.2.1 ≤ 100000 := by
  unfold numL
  split
  · exact ⟨dec_nil, by simp, by simp, by simp⟩
  · have h := numP_dec l
    have x := expL_bd (numP l).2.2
    exact ⟨h.1, h.2, x.1, x.2.1⟩
theorem sigR_len (l : List UInt8) : (sigR l).length ≤ l.length := Nat.le_trans (sgnL_len _) (noBlanks_len l)
theorem sigL_bd (l : List UInt8) : Dec ((sigL l).2.1 ++ (sigL l).2.2.1) ∧ (sigL l).2.1.length + (sigL l).2.2.1.length ≤ l.length ∧ -1099511627776 ≤ (sigL l).2.2.2.1 ∧ (sigL l).2.2.2.1 ≤ 100000 ∧ 0 ≤ (sigL l).2.2.2.2 ∧ (sigL l).2.2.2.2 ≤ l.length := by
  have h := numL_dec (sigR l)
  have g := numL_bd (sigR l)
  have k := sigR_len l
  unfold sigL
  split
  · rename_i e
    exact ⟨h.1, Nat.le_trans h.2.1 k, h.2.2.1, h.2.2.2, by simp only; omega, by simp only; omega⟩
  · exact ⟨h.1, Nat.le_trans h.2.1 k, h.2.2.1, h.2.2.2, by simp only; omega, by simp only; omega⟩
/-- What Prefix answers: a float and how many bytes. -/
def PreEnd (b : Bool) (z : Int) (w : World) (X D : Nat) (e : Ending) (w' : World) : Prop := ∃ r, e = .returned (.tuple #[.float .f64 (turned b r), .int .i64 z]) ∧ Hid (Near X D r) ∧ Below w.heap.size w w'
set_option maxRecDepth 100000 in
set_option maxHeartbeats 4000000 in
theorem prefix_any (s : ByteArray) (w : World) (hs : s.size ≤ 140737488355328) (b : Bool) (X1 X2 : List UInt8) (xe z : Int) (hX : sigL s.data.toList = (b, X1, X2, xe, z)) :
    Calls Tryz.prog 32 #[.string s] w (PreEnd b z w (2 * (pv (X1 ++ X2) * 10 ^ (xe - (X2.length : Int)).toNat) * S1074) (10 ^ (-(xe - (X2.length : Int))).toNat)) := by
  have c1 := cutSigned_any s w (by omega)
  have hb := sigL_bd s.data.toList
  rw [hX] at c1 hb
  rw [ba_len] at hb
  obtain ⟨hd, hl, hx0, hx1, hz0, hz1⟩ := hb
  unfold SigEnd numV at c1
  simp only at c1 hd hl hx0 hx1 hz0 hz1
  obtain ⟨D1, hD1⟩ : ∃ D1 : ByteArray, (⟨X1.toArray⟩ : ByteArray) = D1 := ⟨_, rfl⟩
  obtain ⟨D2, hD2⟩ : ∃ D2 : ByteArray, (⟨X2.toArray⟩ : ByteArray) = D2 := ⟨_, rfl⟩
  have e1 : D1.data.toList = X1 := by rw [← hD1]
  have e2 : D2.data.toList = X2 := by rw [← hD2]
  have g1 : D1.size = X1.length := by rw [← ba_len, e1]
  have g2 : D2.size = X2.length := by rw [← ba_len, e2]
  rw [hD1, hD2] at c1
  obtain ⟨y, hy⟩ : ∃ y, xe - (X2.length : Int) = y := ⟨_, rfl⟩
  obtain ⟨n, hn⟩ : ∃ n, pv (X1 ++ X2) = n := ⟨_, rfl⟩
  have c2 := fun W => value_any b D1 D2 xe z n y W hx0 hx1 (by omega) (by rw [e1, e2]; exact hd) (by rw [e1, e2]; exact hn) (by rw [g2]; exact hy)
  rw [hy, hn]
  have C1 := Lib.hid c1
  have C2 := Lib.hid c2
  clear c1 c2 hX hd hl hx0 hx1 hz0 hz1 hD1 hD2 e1 e2 g1 g2 hy hn
  go_enter Tryz.func32, Tryz.ntmps32
  go_wp2_with fail
  refine C1.out.mono ?_
  rintro e w1 ⟨rfl, hn1⟩
  have f0 := Five.new w1 #[.bool b, .string D1, .string D2, .int .i64 xe, .int .i64 z] 105
  have hb0 := hn1.alloc hn1.size (.cells #[.bool b, .string D1, .string D2, .int .i64 xe, .int .i64 z] 105)
  have hsz := hb0.size
  go_wp2_with fail
  obtain ⟨C, hCC⟩ : ∃ C, w1.heap.size = C := ⟨_, rfl⟩
  obtain ⟨W2, hW2⟩ : ∃ W2, w1.alloc (.cells #[.bool b, .string D1, .string D2, .int .i64 xe, .int .i64 z] 105) = W2 := ⟨_, rfl⟩
  rw [hW2, hCC] at f0
  rw [hW2] at hb0 hsz
  rw [hW2, hCC]
  have HF := Lib.hid f0
  have Hb := Lib.hid hb0
  obtain ⟨q0, q1, q2, q3, q4, -, -, -, -, -⟩ := f0.all
  clear hb0 f0 hn1 hW2 hCC
  have hR := Below.refl W2.heap.size W2
  go_region_with (first
    | (go_at_call 72; (with_reducible refine (C2.out _).mono ?_); rintro e W3 ⟨r, rfl, hr, h3⟩; have b3 : Below W2.heap.size W2 W3 := hR.drew.trans (h3.mono hR.drew.size); obtain ⟨q0, q1, q2, q3, q4, -, -, -, -, -⟩ := (HF.out.below b3).all; clear h3))
  all_goals
    go_wp2_with fail
    refine bodyPost_ret (v := .tuple #[.float .f64 (turned b r), .int .i64 z]) (by simp [results, Tryz.results32, go_sem]) rfl ⟨r, rfl, hr, ?_⟩
    first
    | exact Hb.out.trans (b3.mono hsz)
    | exact (Hb.out.trans (b3.mono hsz)).drew
end Go.Proofs.YtddfigbpckhfbaaGreatDoor

namespace Go.Proofs.YtddfigbpckhfbaaGreatDoor
open Go.RowKit Go.Lib

/-- The sign's bit. -/
def sgn (b : Nat) : Nat := b / 9223372036854775808 % 2 * 9223372036854775808
theorem sgn_mag (b : Nat) (hb : b < 18446744073709551616) : sgn b + mag b = b := by unfold sgn mag; omega
theorem word_sign (s : Bool) (r : Nat) : Ieee.double.word s r = (if s = true then 9223372036854775808 else 0) + r := by
  cases s
  · exact (word_pos r).trans (by simp)
  · show Ieee.double.signWeight + r = _
    rw [dbl_sign]
    rfl
theorem nearest_sign (s : Bool) (m : Nat) (p : Int) : Ieee.double.nearest s m p = (if s = true then 9223372036854775808 else 0) + Ieee.double.nearest false m p := by
  unfold Ieee.Format.nearest
  split
  · rw [word_sign, word_sign]; simp
  · simp only [word_sign]
    cases s
    · simp only [Bool.false_eq_true, if_false, Nat.zero_add]
    · simp only [Bool.false_eq_true, if_false, if_true, Nat.zero_add]
      rfl
/-- Without what stands behind the point. -/
def truncR (r : Nat) : Nat := if 0 ≤ expF r then r else fw (manF r / 2 ^ (-expF r).toNat)
theorem cut_zero (s : Bool) (n j : Nat) : Ieee.Toward.zero.cut s n j = n / 2 ^ j := by
  unfold Ieee.Toward.cut
  simp only [Nat.one_shiftLeft, Bool.toNat_false, Nat.add_zero]
  rcases Nat.le_total j (n.log2 + 2) with h | h
  · rw [Nat.min_eq_left h]
  · rw [Nat.min_eq_right h]
    have h1 : n < 2 ^ (n.log2 + 2) := by
      rcases Nat.eq_zero_or_pos n with h0 | h0
      · subst h0; exact Nat.pow_pos (by omega)
      · have := (log2_bd h0).2
        have h2 : 2 ^ (n.log2 + 1) ≤ 2 ^ (n.log2 + 2) := Nat.pow_le_pow_right (by omega) (by omega)
        omega
    have h2 : 2 ^ (n.log2 + 2) ≤ 2 ^ j := Nat.pow_le_pow_right (by omega) h
    rw [Nat.div_eq_of_lt h1, Nat.div_eq_of_lt (by omega)]
theorem trunc_val {b : Nat} (_hb : b < 18446744073709551616) (h : mag b < 9218868437227405312) : FloatKind.f64.encode ((FloatKind.f64.decode b).integral .zero) = sgn b + truncR (mag b) := by
  have hs : (if (b / 9223372036854775808 % 2 == 1) = true then 9223372036854775808 else 0) = sgn b := by
    unfold sgn
    rcases (by omega : b / 9223372036854775808 % 2 = 0 ∨ b / 9223372036854775808 % 2 = 1) with e | e
    · rw [e]; decide
    · rw [e]; decide
  show Ieee.double.write ((Ieee.double.read b).integral .zero) = _
  rw [read_fin h]
  show Ieee.double.nearest (b / 9223372036854775808 % 2 == 1) (Ieee.Toward.zero.cut (b / 9223372036854775808 % 2 == 1) (manF (mag b) <<< (expF (mag b)).toNat) (-expF (mag b)).toNat) 0 = _
  rw [nearest_sign, hs, cut_zero, Nat.shiftLeft_eq]
  have hml := manF_lt (r := mag b)
  unfold truncR
  by_cases he : 0 ≤ expF (mag b)
  · rw [if_pos he, show (-expF (mag b)).toNat = 0 by omega, Nat.pow_zero, Nat.div_one]
    obtain ⟨e, hee⟩ : ∃ e : Nat, expF (mag b) = (e : Int) := ⟨(expF (mag b)).toNat, by omega⟩
    have hr : 4503599627370496 ≤ mag b := by
      rcases Nat.lt_or_ge (mag b) 4503599627370496 with h1 | h1
      · rw [expF, if_pos h1] at he; omega
      · exact h1
    have hm : manF (mag b) = 4503599627370496 + mag b % 4503599627370496 := by rw [manF, if_neg (by omega)]
    have hx : expF (mag b) = -1074 + ((mag b / 4503599627370496 - 1 : Nat) : Int) := by rw [expF, if_neg (by omega)]
    have hn := nearest_exact (m := manF (mag b)) (j := e) (e := e + 1074) (place := 0) (by omega) hml (by omega) (Or.inr (by omega))
    rw [hee, Int.toNat_natCast, hn]
    congr 1
    rw [Nat.min_eq_left (by omega)]
    omega
  · rw [if_neg he, show (expF (mag b)).toNat = 0 by omega, Nat.pow_zero, Nat.mul_one]
    have hq : manF (mag b) / 2 ^ (-expF (mag b)).toNat < 9007199254740992 := Nat.lt_of_le_of_lt (Nat.div_le_self _ _) hml
    congr 1
    rcases Nat.eq_zero_or_pos (manF (mag b) / 2 ^ (-expF (mag b)).toNat) with h0 | h0
    · rw [h0]; decide
    · exact nearest_up h0 hq
attribute [local irreducible] FloatKind.decode in
theorem trunc_step (x : Nat) (s : Bool) (m : Nat) (p : Int) (hd : FloatKind.f64.decode x = .number s m p) : Extern.MathFloor.toIntegral "math.archTrunc" .zero #[.float .f64 x] = pure (.float .f64 (FloatKind.f64.encode ((FloatKind.f64.decode x).integral .zero))) := by
  conv => lhs; whnf
  rw [hd]
attribute [local irreducible] FloatKind.decode in
theorem trunc_step_inf (x : Nat) (s : Bool) (hd : FloatKind.f64.decode x = .infinity s) : Extern.MathFloor.toIntegral "math.archTrunc" .zero #[.float .f64 x] = pure (.float .f64 (FloatKind.f64.encode ((FloatKind.f64.decode x).integral .zero))) := by
  conv => lhs; whnf
  rw [hd]
theorem run_trunc (b : Nat) (W : World) (hb : b < 18446744073709551616) (h : mag b < 9218868437227405312) : (callFunc 78 #[.float .f64 b]).run Tryz.prog W = .ok (.value (.float .f64 (sgn b + truncR (mag b)))) W := by
  rw [run_callFunc_extern Tryz.func78 (by kernel_rfl) (by kernel_rfl) (by kernel_rfl) (e := Extern.MathFloor.toIntegral "math.archTrunc" .zero) (by kernel_rfl)]
  have hd : FloatKind.f64.decode b = .number (b / 9223372036854775808 % 2 == 1) (manF (mag b)) (expF (mag b)) := read_fin h
  rw [trunc_step b _ _ _ hd, trunc_val hb h]
  rfl
theorem trunc_any (b : Nat) (w : World) (hb : b < 18446744073709551616) (h : mag b < 9218868437227405312) : Calls Tryz.prog 41 #[.float .f64 b] w fun e w' => e = .returned (.float .f64 (sgn b + truncR (mag b))) ∧ w = w' := by
  have h1 := fun W => run_trunc b W hb h
  go_enter Tryz.func41, Tryz.ntmps41
  go_wp2
  go_ret
  exact ⟨rfl, rfl⟩
theorem numTrunc_fin (b : Nat) (w : World) (hb : b < 18446744073709551616) (h : mag b < 9218868437227405312) : Calls Tryz.prog 16 #[.float .f64 b] w fun e w' => e = .returned (.float .f64 (sgn b + truncR (mag b))) ∧ w = w' := by
  have C := Lib.hid (trunc_any b w hb h)
  go_enter Tryz.func16, Tryz.ntmps16
  go_wp2_with fail
  refine C.out.mono ?_
  rintro e w' ⟨rfl, rfl⟩
  go_wp2
  go_ret
  exact ⟨rfl, rfl⟩
end Go.Proofs.YtddfigbpckhfbaaGreatDoor
