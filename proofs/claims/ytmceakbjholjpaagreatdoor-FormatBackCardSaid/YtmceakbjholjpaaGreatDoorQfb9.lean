/- Several texts in one (Contracts of layer 5: a part of a format (part, Parse); Contracts of layer 5: part and Parse; what stands ahead of a part (plain) where nothing does; Contracts of layer 5: the pieces of a number as one, as wide as is asked for (padded); The order of floats by a whole number, and what a number is called that has no digits (boundless); Contracts of layer 5: Number, by a verb with a point, and of what has no digits; Contracts of layer 5: a pattern of one part (plain, filled); Contracts of layer 5: a pattern of one part (filled, Conv)). -/
import Derived.Test.YtmceakbjholjpaaGreatDoorQfb7
import Derived.Test.YtmceakbjholjpaaGreatDoorQfb8
namespace Go.Proofs.YtmceakbjholjpaaGreatDoor
open Go.RowKit Go.Lib

structure Pc where
  m : Bool
  p : Bool
  b : Bool
  a : Bool
  z : Bool
  wd : Int
  pr : Int
  c : Nat
  sw : Bool
  sp : Bool
  nx : Nat
def pcV (x : Pc) : Value := .agg #[.bool x.m, .bool x.p, .bool x.b, .bool x.a, .bool x.z, .int .i64 x.wd, .int .i64 x.pr, .int .u8 (x.c : Int), .bool x.sw, .bool x.sp, .int .i64 (x.nx : Int)]
def pc0 : Pc := ⟨false, false, false, false, false, 0, 0, 0, false, false, 0⟩
/-- The precision behind a point. -/
def prAt (S : ByteArray) (k : Nat) : Int × Bool × Nat := if atB S k = 46 then amt S (k + 1) else (-1, false, k)
/-- The part that begins at a place. -/
def partF (S : ByteArray) (k : Nat) : Option Pc :=
  if atB S k = 37 then
    if vAll.contains (atB S (prAt S (amt S (flE S (k + 1))).2.2).2.2).toUInt8 = true then
      some ⟨hasN S (k + 1) 45 (flE S (k + 1) - (k + 1)), hasN S (k + 1) 43 (flE S (k + 1) - (k + 1)), hasN S (k + 1) 32 (flE S (k + 1) - (k + 1)), hasN S (k + 1) 35 (flE S (k + 1) - (k + 1)), hasN S (k + 1) 48 (flE S (k + 1) - (k + 1)),
        (amt S (flE S (k + 1))).1, (prAt S (amt S (flE S (k + 1))).2.2).1, atB S (prAt S (amt S (flE S (k + 1))).2.2).2.2, (amt S (flE S (k + 1))).2.1, (prAt S (amt S (flE S (k + 1))).2.2).2.1, (prAt S (amt S (flE S (k + 1))).2.2).2.2 + 1⟩
    else none
  else none
theorem flE_le {S : ByteArray} {k : Nat} (h : k ≤ S.size) : k ≤ flE S k ∧ flE S k ≤ S.size := by
  unfold flE
  have : ∀ f j, runP isFl S j f ≤ f := by
    intro f
    induction f with
    | zero => intro j; rw [runP]; omega
    | succ f ih =>
      intro j
      rw [runP]
      split
      · have := ih (j + 1); omega
      · omega
  have := this (S.size - k) k
  omega
theorem amt_le {S : ByteArray} {k : Nat} (h : k ≤ S.size) : k ≤ (amt S k).2.2 ∧ (amt S k).2.2 ≤ S.size := by
  unfold amt
  split
  · rename_i h2
    have := atB_size (S := S) (k := k) (by omega)
    exact ⟨by show k ≤ k + 1; omega, by show k + 1 ≤ S.size; omega⟩
  · have hl : ∀ f j, runP isDg S j f ≤ f := by
      intro f
      induction f with
      | zero => intro j; rw [runP]; omega
      | succ f ih =>
        intro j
        rw [runP]
        split
        · have := ih (j + 1); omega
        · omega
    have := hl (S.size - k) k
    refine ⟨by show k ≤ k + dgN S k; omega, ?_⟩
    show k + dgN S k ≤ S.size
    unfold dgN
    omega
theorem prAt_le {S : ByteArray} {k : Nat} (h : k ≤ S.size) : k ≤ (prAt S k).2.2 ∧ (prAt S k).2.2 ≤ S.size := by
  unfold prAt
  split
  · rename_i h2
    have h3 := atB_size (S := S) (k := k) (by omega)
    have := amt_le (S := S) (k := k + 1) (by omega)
    exact ⟨by omega, this.2⟩
  · exact ⟨Nat.le_refl _, h⟩
theorem Out.fresh {G : List Nat} {a w : World} (h : Out G a w) {p : Addr} (hp : a.heap.size ≤ p.block) (u : Value) : Out G a (w.setCell p u) := by
  have hb := (Below.refl 0 w).setCell (p := p) (Nat.zero_le _) u
  refine ⟨hb.os.trans h.os, hb.tape.trans h.tape, hb.output.trans h.output, Nat.le_trans h.size hb.size, fun k hk hl => ?_⟩
  rw [Below.heap_setCell w p u k (by omega)]
  exact h.block k hk hl
theorem Out.alloc {G : List Nat} {a w : World} (h : Out G a w) (o : Obj) : Out G a (w.alloc o) := by
  have hb := (Below.refl w.heap.size w).alloc (Nat.le_refl _) o
  exact ⟨hb.os.trans h.os, hb.tape.trans h.tape, hb.output.trans h.output, Nat.le_trans h.size hb.size, fun k hk hl => (hb.block k (Nat.lt_of_lt_of_le hl h.size)).trans (h.block k hk hl)⟩
/-- Only blocks of the list and new ones may have turned between the two. -/
theorem Out.then {G : List Nat} {a b c : World} (h : Out G a b) {G' : List Nat} (k : Out G' b c) (hs : ∀ x ∈ G', x ∈ G ∨ a.heap.size ≤ x) : Out G a c :=
  ⟨k.os.trans h.os, k.tape.trans h.tape, k.output.trans h.output, Nat.le_trans h.size k.size, fun i hi hl => (k.block i (fun hx => (hs i hx).elim hi (fun h2 => by omega)) (Nat.lt_of_lt_of_le hl h.size)).trans (h.block i hi hl)⟩
abbrev zc : Array Value := #[.bool false, .bool false, .bool false, .bool false, .bool false, .int .i64 0, .int .i64 0, .int .u8 0, .bool false, .bool false, .int .i64 0]
theorem Five.eleven {W : World} {B : Nat} {t : TypeId} {a0 a1 a2 a3 a4 a5 a6 a7 a8 a9 a10 : Value} (h : Five W B #[a0, a1, a2, a3, a4, a5, a6, a7, a8, a9, a10] t) :
    (W.cell? ⟨B, 0, none⟩ = some a0 ∧ W.cell? ⟨B, 1, none⟩ = some a1 ∧ W.cell? ⟨B, 2, none⟩ = some a2 ∧ W.cell? ⟨B, 3, none⟩ = some a3 ∧ W.cell? ⟨B, 4, none⟩ = some a4 ∧ W.cell? ⟨B, 5, none⟩ = some a5 ∧ W.cell? ⟨B, 6, none⟩ = some a6 ∧ W.cell? ⟨B, 7, none⟩ = some a7 ∧ W.cell? ⟨B, 8, none⟩ = some a8 ∧ W.cell? ⟨B, 9, none⟩ = some a9 ∧ W.cell? ⟨B, 10, none⟩ = some a10) ∧ (W.frozen? ⟨B, 0, none⟩ = false ∧ W.frozen? ⟨B, 1, none⟩ = false ∧ W.frozen? ⟨B, 2, none⟩ = false ∧ W.frozen? ⟨B, 3, none⟩ = false ∧ W.frozen? ⟨B, 4, none⟩ = false ∧ W.frozen? ⟨B, 5, none⟩ = false ∧ W.frozen? ⟨B, 6, none⟩ = false ∧ W.frozen? ⟨B, 7, none⟩ = false ∧ W.frozen? ⟨B, 8, none⟩ = false ∧ W.frozen? ⟨B, 9, none⟩ = false ∧ W.frozen? ⟨B, 10, none⟩ = false) :=
  ⟨⟨h.cell 0, h.cell 1, h.cell 2, h.cell 3, h.cell 4, h.cell 5, h.cell 6, h.cell 7, h.cell 8, h.cell 9, h.cell 10⟩, ⟨h.fro 0, h.fro 1, h.fro 2, h.fro 3, h.fro 4, h.fro 5, h.fro 6, h.fro 7, h.fro 8, h.fro 9, h.fro 10⟩⟩
theorem end11 {w W : World} {G : List Nat} {B : Nat} {t : TypeId} {a0 a1 a2 a3 a4 a5 a6 a7 a8 a9 a10 : Value} (v0 v1 v2 v3 v4 v5 v6 v7 v8 v9 v10 : Value) (F : Five W B #[a0, a1, a2, a3, a4, a5, a6, a7, a8, a9, a10] t) (h : Out G w W) (hB : w.heap.size ≤ B) :
    Five (((((((((((W.setCell ⟨B, 0, none⟩ v0).setCell ⟨B, 1, none⟩ v1).setCell ⟨B, 2, none⟩ v2).setCell ⟨B, 3, none⟩ v3).setCell ⟨B, 4, none⟩ v4).setCell ⟨B, 5, none⟩ v5).setCell ⟨B, 6, none⟩ v6).setCell ⟨B, 7, none⟩ v7).setCell ⟨B, 8, none⟩ v8).setCell ⟨B, 9, none⟩ v9).setCell ⟨B, 10, none⟩ v10) B #[v0, v1, v2, v3, v4, v5, v6, v7, v8, v9, v10] t ∧ Out G w (((((((((((W.setCell ⟨B, 0, none⟩ v0).setCell ⟨B, 1, none⟩ v1).setCell ⟨B, 2, none⟩ v2).setCell ⟨B, 3, none⟩ v3).setCell ⟨B, 4, none⟩ v4).setCell ⟨B, 5, none⟩ v5).setCell ⟨B, 6, none⟩ v6).setCell ⟨B, 7, none⟩ v7).setCell ⟨B, 8, none⟩ v8).setCell ⟨B, 9, none⟩ v9).setCell ⟨B, 10, none⟩ v10) := by
  refine ⟨?_, (((((((((((h.fresh (p := ⟨B, 0, none⟩) hB v0).fresh (p := ⟨B, 1, none⟩) hB v1).fresh (p := ⟨B, 2, none⟩) hB v2).fresh (p := ⟨B, 3, none⟩) hB v3).fresh (p := ⟨B, 4, none⟩) hB v4).fresh (p := ⟨B, 5, none⟩) hB v5).fresh (p := ⟨B, 6, none⟩) hB v6).fresh (p := ⟨B, 7, none⟩) hB v7).fresh (p := ⟨B, 8, none⟩) hB v8).fresh (p := ⟨B, 9, none⟩) hB v9).fresh (p := ⟨B, 10, none⟩) hB v10)⟩
  replace F : Five (W.setCell ⟨B, 0, none⟩ v0) B #[v0, a1, a2, a3, a4, a5, a6, a7, a8, a9, a10] t := F.set (j := 0) (u := v0)
  generalize (W.setCell ⟨B, 0, none⟩ v0) = W1 at *
  replace F : Five (W1.setCell ⟨B, 1, none⟩ v1) B #[v0, v1, a2, a3, a4, a5, a6, a7, a8, a9, a10] t := F.set (j := 1) (u := v1)
  generalize (W1.setCell ⟨B, 1, none⟩ v1) = W2 at *
  replace F : Five (W2.setCell ⟨B, 2, none⟩ v2) B #[v0, v1, v2, a3, a4, a5, a6, a7, a8, a9, a10] t := F.set (j := 2) (u := v2)
  generalize (W2.setCell ⟨B, 2, none⟩ v2) = W3 at *
  replace F : Five (W3.setCell ⟨B, 3, none⟩ v3) B #[v0, v1, v2, v3, a4, a5, a6, a7, a8, a9, a10] t := F.set (j := 3) (u := v3)
  generalize (W3.setCell ⟨B, 3, none⟩ v3) = W4 at *
  replace F : Five (W4.setCell ⟨B, 4, none⟩ v4) B #[v0, v1, v2, v3, v4, a5, a6, a7, a8, a9, a10] t := F.set (j := 4) (u := v4)
  generalize (W4.setCell ⟨B, 4, none⟩ v4) = W5 at *
  replace F : Five (W5.setCell ⟨B, 5, none⟩ v5) B #[v0, v1, v2, v3, v4, v5, a6, a7, a8, a9, a10] t := F.set (j := 5) (u := v5)
  generalize (W5.setCell ⟨B, 5, none⟩ v5) = W6 at *
  replace F : Five (W6.setCell ⟨B, 6, none⟩ v6) B #[v0, v1, v2, v3, v4, v5, v6, a7, a8, a9, a10] t := F.set (j := 6) (u := v6)
  generalize (W6.setCell ⟨B, 6, none⟩ v6) = W7 at *
  replace F : Five (W7.setCell ⟨B, 7, none⟩ v7) B #[v0, v1, v2, v3, v4, v5, v6, v7, a8, a9, a10] t := F.set (j := 7) (u := v7)
  generalize (W7.setCell ⟨B, 7, none⟩ v7) = W8 at *
  replace F : Five (W8.setCell ⟨B, 8, none⟩ v8) B #[v0, v1, v2, v3, v4, v5, v6, v7, v8, a9, a10] t := F.set (j := 8) (u := v8)
  generalize (W8.setCell ⟨B, 8, none⟩ v8) = W9 at *
  replace F : Five (W9.setCell ⟨B, 9, none⟩ v9) B #[v0, v1, v2, v3, v4, v5, v6, v7, v8, v9, a10] t := F.set (j := 9) (u := v9)
  generalize (W9.setCell ⟨B, 9, none⟩ v9) = W10 at *
  replace F : Five (W10.setCell ⟨B, 10, none⟩ v10) B #[v0, v1, v2, v3, v4, v5, v6, v7, v8, v9, v10] t := F.set (j := 10) (u := v10)
  exact F
theorem Five.eleven_off {W : World} {g B : Nat} {cs : Array Value} {t : TypeId} (h : Five W g cs t) (v0 v1 v2 v3 v4 v5 v6 v7 v8 v9 v10 : Value) (hne : g ≠ B) : Five (((((((((((W.setCell ⟨B, 0, none⟩ v0).setCell ⟨B, 1, none⟩ v1).setCell ⟨B, 2, none⟩ v2).setCell ⟨B, 3, none⟩ v3).setCell ⟨B, 4, none⟩ v4).setCell ⟨B, 5, none⟩ v5).setCell ⟨B, 6, none⟩ v6).setCell ⟨B, 7, none⟩ v7).setCell ⟨B, 8, none⟩ v8).setCell ⟨B, 9, none⟩ v9).setCell ⟨B, 10, none⟩ v10) g cs t :=
  (((((((((((h.other (j := 0) (u := v0) hne).other (j := 1) (u := v1) hne).other (j := 2) (u := v2) hne).other (j := 3) (u := v3) hne).other (j := 4) (u := v4) hne).other (j := 5) (u := v5) hne).other (j := 6) (u := v6) hne).other (j := 7) (u := v7) hne).other (j := 8) (u := v8) hne).other (j := 9) (u := v9) hne).other (j := 10) (u := v10) hne)
set_option maxRecDepth 100000 in
set_option maxHeartbeats 8000000 in
theorem part_first (S : ByteArray) (k g : Nat) (w : World) (hk : k ≤ S.size) (hS : S.size ≤ 4611686018427387904) (hR : Rdr w g S k) (h37 : atB S k ≠ 37) :
    Calls Tryz.prog 41 #[.pointer (some ⟨g, 0, none⟩)] w fun e w' => e = .returned (.tuple #[pcV pc0, .bool false]) ∧ Out [g] w w' := by
  have f0 := Five.new w zc 26
  have hgl := hR.lt
  have cT := take_any S k g 37 (w.alloc (.cells zc 26)) hk hS (by decide) (hR.alloc _)
  rw [if_neg h37, decide_eq_false h37] at cT
  obtain ⟨W1, hW1⟩ : ∃ W1, w.alloc (.cells zc 26) = W1 := ⟨_, rfl⟩
  have hO := (Out.refl [g] w).alloc (.cells zc 26)
  rw [hW1] at cT f0 hO
  have CT := Lib.hid cT
  have HW1 := Lib.hid hW1
  have HO := Lib.hid hO
  have HF := Lib.hid f0
  clear cT hW1 hO h37 hR f0
  obtain ⟨B, hB⟩ : ∃ B, w.heap.size = B := ⟨_, rfl⟩
  have HB := Lib.hid hB
  rw [hB] at HF hgl
  clear hB
  have HG := Lib.hid hgl
  clear hgl
  go_enter Tryz.func41, Tryz.ntmps41
  go_wp2_with fail
  rw [HW1.out, HB.out]
  refine CT.out.mono ?_
  rintro e w1 ⟨rfl, h1, h2⟩
  have HF2 := Lib.hid (h2.five HF.out (by simp; have := HG.out; omega))
  have HO2 := Lib.hid (HO.out.then h2 (fun x hx => Or.inl hx))
  clear h1 h2
  obtain ⟨⟨c0, c1, c2, c3, c4, c5, c6, c7, c8, c9, c10⟩, d0, d1, d2, d3, d4, d5, d6, d7, d8, d9, d10⟩ := HF2.out.eleven
  go_wp2_with fail
  clear c0 c1 c2 c3 c4 c5 c6 c7 c8 c9 c10 d0 d1 d2 d3 d4 d5 d6 d7 d8 d9 d10
  obtain ⟨z, hz⟩ := end11 (.bool false) (.bool false) (.bool false) (.bool false) (.bool false) (.int .i64 0) (.int .i64 0) (.int .u8 0) (.bool false) (.bool false) (.int .i64 0) HF2.out HO2.out (Nat.le_of_eq HB.out)
  obtain ⟨⟨c0, c1, c2, c3, c4, c5, c6, c7, c8, c9, c10⟩, -⟩ := z.eleven
  exact bodyPost_ret (v := .tuple #[.agg #[.bool false, .bool false, .bool false, .bool false, .bool false, .int .i64 0, .int .i64 0, .int .u8 0, .bool false, .bool false, .int .i64 0], .bool false]) (by simp [results, Tryz.results41, go_sem, c0, c1, c2, c3, c4, c5, c6, c7, c8, c9, c10]) rfl ⟨rfl, hz⟩
set_option maxRecDepth 100000 in
set_option maxHeartbeats 16000000 in
theorem part_rest (S : ByteArray) (k g : Nat) (w : World) (hk : k ≤ S.size) (hS : S.size ≤ 4611686018427387904) (hR : Rdr w g S k) (h37 : atB S k = 37) (j1 k2 k3 _k4 x4 : Nat) (wd pr : Int) (sw sp v : Bool)
    (h1 : flE S (k + 1) = j1) (h2 : amt S j1 = (wd, sw, k2)) (h3 : prAt S k2 = (pr, sp, k3)) (h4 : atB S k3 = x4) (h5 : vAll.contains x4.toUInt8 = v) :
    Calls Tryz.prog 41 #[.pointer (some ⟨g, 0, none⟩)] w fun e w' => e = .returned (.tuple #[pcV (if v = true then ⟨hasN S (k + 1) 45 (j1 - (k + 1)), hasN S (k + 1) 43 (j1 - (k + 1)), hasN S (k + 1) 32 (j1 - (k + 1)), hasN S (k + 1) 35 (j1 - (k + 1)), hasN S (k + 1) 48 (j1 - (k + 1)), wd, pr, x4, sw, sp, k3 + 1⟩ else pc0), .bool v]) ∧ (v = true → Rdr w' g S (k3 + 1)) ∧ Out [g] w w' := by
  have f0 := Five.new w zc 26
  have hgl := hR.lt
  have cT := take_any S k g 37 (w.alloc (.cells zc 26)) hk hS (by decide) (hR.alloc _)
  rw [if_pos h37, decide_eq_true h37] at cT
  have hk1 : k < S.size := atB_size (by omega)
  have hj1 := flE_le (S := S) (k := k + 1) (by omega)
  rw [h1] at hj1
  have hk2 := amt_le (S := S) (k := j1) (by omega)
  rw [h2] at hk2
  have hk3 := prAt_le (S := S) (k := k2) hk2.2
  rw [h3] at hk3
  simp only at hk2 hk3
  have CFl := Lib.hid (fun (W : World) (h : Nat) (a : Rdr W g S (k + 1)) (b : Five W h (flV S (k + 1) 0) 26) (c : g ≠ h) => flags_any S (k + 1) g h W (by omega) hS a b c)
  have cAm := fun (W : World) (a : Rdr W g S j1) => amount_any S j1 g W (by omega) hS a
  rw [h2] at cAm
  have CAm := Lib.hid cAm
  have CTk := Lib.hid (fun (W : World) (a : Rdr W g S k2) => take_any S k2 g 46 W hk2.2 hS (by decide) a)
  have CA2 := Lib.hid (fun (W : World) (hl : k2 + 1 ≤ S.size) (a : Rdr W g S (k2 + 1)) => amount_any S (k2 + 1) g W hl hS a)
  have cPk := fun (W : World) (a : Rdr W g S k3) => peek_any S k3 g W hk3.2 hS a
  rw [h4] at cPk
  have CPk := Lib.hid cPk
  have cV := fun W => among_any ⟨#[100, 105, 111, 120, 88, 117, 101, 69, 102, 70, 103, 71, 99, 115, 37]⟩ x4 W
  replace cV : ∀ w : World, Calls Tryz.prog 46 #[.string ⟨#[100, 105, 111, 120, 88, 117, 101, 69, 102, 70, 103, 71, 99, 115, 37]⟩, .int .u8 (x4 : Int)] w fun e w' => e = .returned (.bool (vAll.contains x4.toUInt8)) ∧ w = w' := cV
  rw [h5] at cV
  have CV := Lib.hid cV
  obtain ⟨W1, hW1⟩ : ∃ W1, w.alloc (.cells zc 26) = W1 := ⟨_, rfl⟩
  have hO := (Out.refl [g] w).alloc (.cells zc 26)
  rw [hW1] at cT f0 hO
  have CT := Lib.hid cT
  have HW1 := Lib.hid hW1
  have HO := Lib.hid hO
  have HF := Lib.hid f0
  have H1 := Lib.hid h1
  have H3 := Lib.hid h3
  have HX4 := Lib.hid h4
  have H5 := Lib.hid h5
  have HK2 := Lib.hid hk2
  have HK3 := Lib.hid hk3
  obtain ⟨b0, hb0⟩ : ∃ b0, hasN S (k + 1) 45 (j1 - (k + 1)) = b0 := ⟨_, rfl⟩
  obtain ⟨b1, hb1⟩ : ∃ b1, hasN S (k + 1) 43 (j1 - (k + 1)) = b1 := ⟨_, rfl⟩
  obtain ⟨b2, hb2⟩ : ∃ b2, hasN S (k + 1) 32 (j1 - (k + 1)) = b2 := ⟨_, rfl⟩
  obtain ⟨b3, hb3⟩ : ∃ b3, hasN S (k + 1) 35 (j1 - (k + 1)) = b3 := ⟨_, rfl⟩
  obtain ⟨b4, hb4⟩ : ∃ b4, hasN S (k + 1) 48 (j1 - (k + 1)) = b4 := ⟨_, rfl⟩
  have hFv : flV S (k + 1) (j1 - (k + 1)) = #[.bool b0, .bool b1, .bool b2, .bool b3, .bool b4, .int .i64 0, .int .i64 0, .int .u8 0, .bool false, .bool false, .int .i64 0] := by
    unfold flV
    rw [hb0, hb1, hb2, hb3, hb4]
  rw [hb0, hb1, hb2, hb3, hb4]
  have HFV := Lib.hid hFv
  clear cT hW1 hO h37 hR f0 cAm cPk cV h1 h2 h3 h4 h5 hk2 hk3 hj1 hb0 hb1 hb2 hb3 hb4 hFv
  obtain ⟨B, hB⟩ : ∃ B, w.heap.size = B := ⟨_, rfl⟩
  have HB := Lib.hid hB
  rw [hB] at HF hgl
  clear hB
  have HG := Lib.hid hgl
  clear hgl
  go_enter Tryz.func41, Tryz.ntmps41
  go_wp2_with fail
  rw [HW1.out, HB.out]
  refine CT.out.mono ?_
  rintro e w1 ⟨rfl, r1, o1⟩
  have HF2 := Lib.hid (o1.five HF.out (by simp; have := HG.out; omega))
  have HO2 := Lib.hid (HO.out.then o1 (fun x hx => Or.inl hx))
  have hBl : B < w1.heap.size := HF2.out.lt
  have HR1 := Lib.hid r1
  clear r1 o1 CT HF HO
  go_wp2_with fail
  have FP0 := Five.new w1 zc 26
  have HR2 := Lib.hid (HR1.out.alloc (.cells zc 26))
  have HF3 := Lib.hid (HF2.out.alloc (.cells zc 26))
  have HO3 := Lib.hid (HO2.out.alloc (.cells zc 26))
  obtain ⟨Q, hQ⟩ : ∃ Q, w1.heap.size = Q := ⟨_, rfl⟩
  obtain ⟨W2, hW2⟩ : ∃ W2, w1.alloc (.cells zc 26) = W2 := ⟨_, rfl⟩
  have hgQ : g ≠ Q := by have := HR1.out.lt; omega
  have hBQ : B < Q := by omega
  have hgB : g < B := HG.out
  rw [hQ] at FP0
  rw [hW2] at FP0 HR2 HF3 HO3
  have HW2 := Lib.hid hW2
  have HQ := Lib.hid hQ
  have HFP0 := Lib.hid FP0
  clear hQ hW2 HR1 HF2 HO2 hBl FP0
  have hgBi := Lib.hid hgB
  have hBQi := Lib.hid hBQ
  have hgQi := Lib.hid hgQ
  have n1 : ¬ g = Q := hgQ
  have n2 : ¬ Q = g := fun e => hgQ e.symm
  have n3 : ¬ B = Q := by omega
  have n4 : ¬ Q = B := by omega
  have n5 : ¬ g = B := by omega
  have n6 : ¬ B = g := by omega
  clear hgB hBQ hgQ
  change Calls _ _ _ (w1.alloc (.cells zc 26)) _
  rw [HW2.out, HQ.out]
  refine (CFl.out _ Q HR2.out HFP0.out hgQi.out).mono ?_
  rintro e W3 ⟨rfl, r3, f3, o3⟩
  rw [H1.out] at r3 f3
  rw [HFV.out] at f3
  have HR3 := Lib.hid r3
  have HP3 := Lib.hid f3
  have HF4 := Lib.hid (o3.five HF3.out (by simp; omega))
  have HO4 := Lib.hid (HO3.out.then o3 (fun x hx => by
    rcases List.mem_cons.1 hx with rfl | hx
    · exact Or.inl (by simp)
    · rw [List.mem_singleton.1 hx]
      right
      have := HB.out
      have := hBQi.out
      omega))
  clear r3 f3 o3 CFl HR2 HFP0 HF3 HO3
  go_wp2_with fail
  refine (CAm.out _ HR3.out).mono ?_
  rintro e W4 ⟨rfl, r4, o4⟩
  have HP4 := Lib.hid (o4.five HP3.out (by simp; exact n2))
  have HF5 := Lib.hid (o4.five HF4.out (by simp; exact n6))
  have HO5 := Lib.hid (HO4.out.then o4 (fun x hx => Or.inl hx))
  have HR4 := Lib.hid r4
  clear r4 o4 CAm HR3 HP3 HF4 HO4
  have d5 := HP4.out.fro 5
  have d6 := HP4.out.fro 6
  have d8 := HP4.out.fro 8
  have c5 := HP4.out.cell 5
  have c6 := HP4.out.cell 6
  have c8 := HP4.out.cell 8
  go_wp2_with fail
  clear c5 c6 c8 d5 d6 d8
  have q1 : Five (W4.setCell ⟨Q, 5, none⟩ (.int .i64 wd)) Q #[.bool b0, .bool b1, .bool b2, .bool b3, .bool b4, .int .i64 wd, .int .i64 0, .int .u8 0, .bool false, .bool false, .int .i64 0] 26 := HP4.out.set (j := 5) (u := .int .i64 wd)
  have q2 : Five ((W4.setCell ⟨Q, 5, none⟩ (.int .i64 wd)).setCell ⟨Q, 8, none⟩ (.bool sw)) Q #[.bool b0, .bool b1, .bool b2, .bool b3, .bool b4, .int .i64 wd, .int .i64 0, .int .u8 0, .bool sw, .bool false, .int .i64 0] 26 := q1.set (j := 8) (u := .bool sw)
  have q3 : Five (((W4.setCell ⟨Q, 5, none⟩ (.int .i64 wd)).setCell ⟨Q, 8, none⟩ (.bool sw)).setCell ⟨Q, 6, none⟩ (.int .i64 (-1))) Q #[.bool b0, .bool b1, .bool b2, .bool b3, .bool b4, .int .i64 wd, .int .i64 (-1), .int .u8 0, .bool sw, .bool false, .int .i64 0] 26 := q2.set (j := 6) (u := .int .i64 (-1))
  have r5 : Rdr (((W4.setCell ⟨Q, 5, none⟩ (.int .i64 wd)).setCell ⟨Q, 8, none⟩ (.bool sw)).setCell ⟨Q, 6, none⟩ (.int .i64 (-1))) g S k2 := ((HR4.out.other (j := 5) (u := .int .i64 wd) n1).other (j := 8) (u := .bool sw) n1).other (j := 6) (u := .int .i64 (-1)) n1
  have f5 : Five (((W4.setCell ⟨Q, 5, none⟩ (.int .i64 wd)).setCell ⟨Q, 8, none⟩ (.bool sw)).setCell ⟨Q, 6, none⟩ (.int .i64 (-1))) B zc 26 := ((HF5.out.other (j := 5) (u := .int .i64 wd) n3).other (j := 8) (u := .bool sw) n3).other (j := 6) (u := .int .i64 (-1)) n3
  have hwQ : w.heap.size ≤ Q := by have := HB.out; have := hBQi.out; omega
  have o5 : Out [g] w (((W4.setCell ⟨Q, 5, none⟩ (.int .i64 wd)).setCell ⟨Q, 8, none⟩ (.bool sw)).setCell ⟨Q, 6, none⟩ (.int .i64 (-1))) := ((HO5.out.fresh (p := ⟨Q, 5, none⟩) hwQ _).fresh (p := ⟨Q, 8, none⟩) hwQ _).fresh (p := ⟨Q, 6, none⟩) hwQ _
  have HWQ := Lib.hid hwQ
  obtain ⟨W5, hW5⟩ : ∃ W5, (((W4.setCell ⟨Q, 5, none⟩ (.int .i64 wd)).setCell ⟨Q, 8, none⟩ (.bool sw)).setCell ⟨Q, 6, none⟩ (.int .i64 (-1))) = W5 := ⟨_, rfl⟩
  rw [hW5] at q3 r5 f5 o5 ⊢
  have HP5 := Lib.hid q3
  have HR5 := Lib.hid r5
  have HF6 := Lib.hid f5
  have HO6 := Lib.hid o5
  clear hW5 q1 q2 q3 r5 f5 o5 HP4 HF5 HO5 HR4 hwQ
  refine (CTk.out _ HR5.out).mono ?_
  rintro e W6 ⟨rfl, r6, o6⟩
  have HR6 := Lib.hid r6
  have HP6 := Lib.hid (o6.five HP5.out (by simp; exact n2))
  have HF7 := Lib.hid (o6.five HF6.out (by simp; exact n6))
  have HO7 := Lib.hid (HO6.out.then o6 (fun x hx => Or.inl hx))
  clear r6 o6 HP5 HR5 HF6 HO6 CTk
  have fin : ∀ (W8 : World), Five W8 Q #[.bool b0, .bool b1, .bool b2, .bool b3, .bool b4, .int .i64 wd, .int .i64 pr, .int .u8 0, .bool sw, .bool sp, .int .i64 0] 26 → Rdr W8 g S k3 → Five W8 B zc 26 → Out [g] w W8 → True := fun _ _ _ _ _ => trivial
  clear fin
  by_cases hdot : atB S k2 = 46
  · have hk1 : k2 + 1 ≤ S.size := atB_size (by omega)
    have hpr : amt S (k2 + 1) = (pr, sp, k3) := by have h := H3.out; unfold prAt at h; rw [if_pos hdot] at h; exact h
    have r6 := HR6.out
    rw [if_pos hdot] at r6
    have cA2 := CA2.out W6 hk1 r6
    rw [hpr] at cA2
    have CA3 := Lib.hid cA2
    clear hpr r6 cA2 CA2 hk1
    have hdd : decide (atB S k2 = 46) = true := decide_eq_true hdot
    clear hdot
    go_wp2_with fail
    refine CA3.out.mono ?_
    rintro e W7 ⟨rfl, r7, o7⟩
    have HP7 := Lib.hid (o7.five HP6.out (by simp; exact n2))
    have HF8 := Lib.hid (o7.five HF7.out (by simp; exact n6))
    have HO8 := Lib.hid (HO7.out.then o7 (fun x hx => Or.inl hx))
    have HR7 := Lib.hid r7
    clear r7 o7 CA3 HP6 HF7 HO7 HR6 hdd
    have d6 := HP7.out.fro 6
    have d9 := HP7.out.fro 9
    have c6 := HP7.out.cell 6
    have c9 := HP7.out.cell 9
    go_wp2_with fail
    clear c6 c9 d6 d9
    have hwQ8 : w.heap.size ≤ Q := HWQ.out
    have q8 : Five (W7.setCell ⟨Q, 6, none⟩ (.int .i64 pr)) Q #[.bool b0, .bool b1, .bool b2, .bool b3, .bool b4, .int .i64 wd, .int .i64 pr, .int .u8 0, .bool sw, .bool false, .int .i64 0] 26 := HP7.out.set (j := 6) (u := .int .i64 pr)
    have q9 : Five ((W7.setCell ⟨Q, 6, none⟩ (.int .i64 pr)).setCell ⟨Q, 9, none⟩ (.bool sp)) Q #[.bool b0, .bool b1, .bool b2, .bool b3, .bool b4, .int .i64 wd, .int .i64 pr, .int .u8 0, .bool sw, .bool sp, .int .i64 0] 26 := q8.set (j := 9) (u := .bool sp)
    have HR8 := Lib.hid (show Rdr ((W7.setCell ⟨Q, 6, none⟩ (.int .i64 pr)).setCell ⟨Q, 9, none⟩ (.bool sp)) g S k3 from (HR7.out.other (j := 6) (u := .int .i64 pr) n1).other (j := 9) (u := .bool sp) n1)
    have HF9 := Lib.hid (show Five ((W7.setCell ⟨Q, 6, none⟩ (.int .i64 pr)).setCell ⟨Q, 9, none⟩ (.bool sp)) B zc 26 from (HF8.out.other (j := 6) (u := .int .i64 pr) n3).other (j := 9) (u := .bool sp) n3)
    have HO9 := Lib.hid ((HO8.out.fresh (p := ⟨Q, 6, none⟩) hwQ8 (.int .i64 pr)).fresh (p := ⟨Q, 9, none⟩) hwQ8 (.bool sp))
    have HP8 := Lib.hid q9
    clear q8 q9 HP7 HF8 HO8 HR7 hwQ8
    obtain ⟨W8, hW8⟩ : ∃ W8, ((W7.setCell ⟨Q, 6, none⟩ (.int .i64 pr)).setCell ⟨Q, 9, none⟩ (.bool sp)) = W8 := ⟨_, rfl⟩
    rw [hW8] at HR8 HF9 HO9 HP8 ⊢
    clear hW8
    have hwQ : w.heap.size ≤ Q := HWQ.out
    refine (CPk.out _ HR8.out).mono ?_
    rintro e W9 ⟨rfl, n, rfl⟩
    have d7 := (HP8.out.drew n).fro 7
    have c7 := (HP8.out.drew n).cell 7
    go_wp2_with fail
    clear c7 d7
    have q10 : Five ((W8.drewN n).setCell ⟨Q, 7, none⟩ (.int .u8 (x4 : Int))) Q #[.bool b0, .bool b1, .bool b2, .bool b3, .bool b4, .int .i64 wd, .int .i64 pr, .int .u8 (x4 : Int), .bool sw, .bool sp, .int .i64 0] 26 := (HP8.out.drew n).set (j := 7) (u := .int .u8 (x4 : Int))
    have r10 : Rdr ((W8.drewN n).setCell ⟨Q, 7, none⟩ (.int .u8 (x4 : Int))) g S k3 := (HR8.out.drew n).other (j := 7) (u := .int .u8 (x4 : Int)) n1
    have f10 : Five ((W8.drewN n).setCell ⟨Q, 7, none⟩ (.int .u8 (x4 : Int))) B zc 26 := (HF9.out.drew n).other (j := 7) (u := .int .u8 (x4 : Int)) n3
    have o10 : Out [g] w ((W8.drewN n).setCell ⟨Q, 7, none⟩ (.int .u8 (x4 : Int))) := (HO9.out.drew n).fresh (p := ⟨Q, 7, none⟩) hwQ _
    obtain ⟨W10, hW10⟩ : ∃ W10, ((W8.drewN n).setCell ⟨Q, 7, none⟩ (.int .u8 (x4 : Int))) = W10 := ⟨_, rfl⟩
    rw [hW10] at q10 r10 f10 o10 ⊢
    have HP10 := Lib.hid q10
    have HR10 := Lib.hid r10
    have HF10 := Lib.hid f10
    have HO10 := Lib.hid o10
    clear hW10 q10 r10 f10 o10 HP8 HR8 HF9 HO9 CPk
    refine (CV.out _).mono ?_
    rintro e w' ⟨rfl, rfl⟩
    cases v with
    | false =>
      obtain ⟨⟨c0, c1, c2, c3, c4, c5, c6, c7, c8, c9, c10⟩, d0, d1, d2, d3, d4, d5, d6, d7, d8, d9, d10⟩ := HF10.out.eleven
      go_wp2_with fail
      clear c0 c1 c2 c3 c4 c5 c6 c7 c8 c9 c10 d0 d1 d2 d3 d4 d5 d6 d7 d8 d9 d10
      obtain ⟨z, hz⟩ := end11 (.bool false) (.bool false) (.bool false) (.bool false) (.bool false) (.int .i64 0) (.int .i64 0) (.int .u8 0) (.bool false) (.bool false) (.int .i64 0) HF10.out HO10.out (Nat.le_of_eq HB.out)
      obtain ⟨⟨c0, c1, c2, c3, c4, c5, c6, c7, c8, c9, c10⟩, -⟩ := z.eleven
      exact bodyPost_ret (v := .tuple #[.agg #[.bool false, .bool false, .bool false, .bool false, .bool false, .int .i64 0, .int .i64 0, .int .u8 0, .bool false, .bool false, .int .i64 0], .bool false]) (by simp [results, Tryz.results41, go_sem, c0, c1, c2, c3, c4, c5, c6, c7, c8, c9, c10]) rfl (by first | exact ⟨rfl, hz⟩ | exact ⟨rfl, (fun h => by cases h), hz⟩)
    | true =>
      have hk3s : k3 ≤ S.size := HK3.out.2
      have hw : wrap64 ((k3 : Int) + 1) = ((k3 + 1 : Nat) : Int) := by unfold wrap64; omega
      have e1 := HR10.out.cell 1
      have e2 := HR10.out.fro 1
      have e3 := HP10.out.cell 10
      have e4 := HP10.out.fro 10
      obtain ⟨⟨c0, c1, c2, c3, c4, c5, c6, c7, c8, c9, -⟩, -⟩ := HP10.out.eleven
      obtain ⟨⟨h0, h1, h2, h3, h4, h5, h6, h7, h8, h9, h10⟩, d0, d1, d2, d3, d4, d5, d6, d7, d8, d9, d10⟩ := HF10.out.eleven
      go_wp2_with fail
      clear c0 c1 c2 c3 c4 c5 c6 c7 c8 c9 e1 e2 e3 e4 h0 h1 h2 h3 h4 h5 h6 h7 h8 h9 h10 d0 d1 d2 d3 d4 d5 d6 d7 d8 d9 d10
      have f11 : Five ((W10.setCell ⟨g, 1, none⟩ (.int .i64 ((k3 : Int) + 1))).setCell ⟨Q, 10, none⟩ (.int .i64 ((k3 : Int) + 1))) B zc 26 := (HF10.out.other (j := 1) (u := .int .i64 ((k3 + 1 : Nat) : Int)) n6).other (j := 10) (u := .int .i64 ((k3 + 1 : Nat) : Int)) n3
      have o11 : Out [g] w ((W10.setCell ⟨g, 1, none⟩ (.int .i64 ((k3 : Int) + 1))).setCell ⟨Q, 10, none⟩ (.int .i64 ((k3 : Int) + 1))) := (HO10.out.set (p := ⟨g, 1, none⟩) (by simp) _).fresh (p := ⟨Q, 10, none⟩) hwQ _
      have r11 : Rdr ((W10.setCell ⟨g, 1, none⟩ (.int .i64 ((k3 : Int) + 1))).setCell ⟨Q, 10, none⟩ (.int .i64 ((k3 : Int) + 1))) g S (k3 + 1) := (HR10.out.step (k3 + 1)).other (j := 10) (u := .int .i64 ((k3 + 1 : Nat) : Int)) n1
      obtain ⟨z, hz⟩ := end11 (.bool b0) (.bool b1) (.bool b2) (.bool b3) (.bool b4) (.int .i64 wd) (.int .i64 pr) (.int .u8 (x4 : Int)) (.bool sw) (.bool sp) (.int .i64 ((k3 : Int) + 1)) f11 o11 (Nat.le_of_eq HB.out)
      have r12 := r11.eleven_off (.bool b0) (.bool b1) (.bool b2) (.bool b3) (.bool b4) (.int .i64 wd) (.int .i64 pr) (.int .u8 (x4 : Int)) (.bool sw) (.bool sp) (.int .i64 ((k3 : Int) + 1)) n5
      have r12 : Rdr _ g S (k3 + 1) := r12
      obtain ⟨⟨c0, c1, c2, c3, c4, c5, c6, c7, c8, c9, c10⟩, -⟩ := z.eleven
      exact bodyPost_ret (v := .tuple #[.agg #[.bool b0, .bool b1, .bool b2, .bool b3, .bool b4, .int .i64 wd, .int .i64 pr, .int .u8 (x4 : Int), .bool sw, .bool sp, .int .i64 ((k3 : Int) + 1)], .bool true]) (by simp [results, Tryz.results41, go_sem, c0, c1, c2, c3, c4, c5, c6, c7, c8, c9, c10]) rfl (by first | exact ⟨rfl, r12, hz⟩ | exact ⟨rfl, (fun _ => r12), hz⟩)
  · have h3 := H3.out
    unfold prAt at h3
    rw [if_neg hdot] at h3
    obtain ⟨rfl, rfl, rfl⟩ : (-1 : Int) = pr ∧ false = sp ∧ k2 = k3 := by simpa using h3
    have r6 := HR6.out
    rw [if_neg hdot] at r6
    have HR8 := Lib.hid r6
    have hdd : decide (atB S k2 = 46) = false := decide_eq_false hdot
    obtain ⟨W8, hW8⟩ : ∃ W8, W6 = W8 := ⟨_, rfl⟩
    subst hW8
    have HP8 := HP6
    have HF9 := HF7
    have HO9 := HO7
    clear r6 h3 hdot HP6 HF7 HO7 HR6 CA2 H3
    go_wp2_with fail
    have hwQ : w.heap.size ≤ Q := HWQ.out
    refine (CPk.out _ HR8.out).mono ?_
    rintro e W9 ⟨rfl, n, rfl⟩
    have d7 := (HP8.out.drew n).fro 7
    have c7 := (HP8.out.drew n).cell 7
    go_wp2_with fail
    clear c7 d7
    have q10 : Five ((W6.drewN n).setCell ⟨Q, 7, none⟩ (.int .u8 (x4 : Int))) Q #[.bool b0, .bool b1, .bool b2, .bool b3, .bool b4, .int .i64 wd, .int .i64 (-1), .int .u8 (x4 : Int), .bool sw, .bool false, .int .i64 0] 26 := (HP8.out.drew n).set (j := 7) (u := .int .u8 (x4 : Int))
    have r10 : Rdr ((W6.drewN n).setCell ⟨Q, 7, none⟩ (.int .u8 (x4 : Int))) g S k2 := (HR8.out.drew n).other (j := 7) (u := .int .u8 (x4 : Int)) n1
    have f10 : Five ((W6.drewN n).setCell ⟨Q, 7, none⟩ (.int .u8 (x4 : Int))) B zc 26 := (HF9.out.drew n).other (j := 7) (u := .int .u8 (x4 : Int)) n3
    have o10 : Out [g] w ((W6.drewN n).setCell ⟨Q, 7, none⟩ (.int .u8 (x4 : Int))) := (HO9.out.drew n).fresh (p := ⟨Q, 7, none⟩) hwQ _
    obtain ⟨W10, hW10⟩ : ∃ W10, ((W6.drewN n).setCell ⟨Q, 7, none⟩ (.int .u8 (x4 : Int))) = W10 := ⟨_, rfl⟩
    rw [hW10] at q10 r10 f10 o10 ⊢
    have HP10 := Lib.hid q10
    have HR10 := Lib.hid r10
    have HF10 := Lib.hid f10
    have HO10 := Lib.hid o10
    clear hW10 q10 r10 f10 o10 HP8 HR8 HF9 HO9 CPk
    refine (CV.out _).mono ?_
    rintro e w' ⟨rfl, rfl⟩
    cases v with
    | false =>
      obtain ⟨⟨c0, c1, c2, c3, c4, c5, c6, c7, c8, c9, c10⟩, d0, d1, d2, d3, d4, d5, d6, d7, d8, d9, d10⟩ := HF10.out.eleven
      go_wp2_with fail
      clear c0 c1 c2 c3 c4 c5 c6 c7 c8 c9 c10 d0 d1 d2 d3 d4 d5 d6 d7 d8 d9 d10
      obtain ⟨z, hz⟩ := end11 (.bool false) (.bool false) (.bool false) (.bool false) (.bool false) (.int .i64 0) (.int .i64 0) (.int .u8 0) (.bool false) (.bool false) (.int .i64 0) HF10.out HO10.out (Nat.le_of_eq HB.out)
      obtain ⟨⟨c0, c1, c2, c3, c4, c5, c6, c7, c8, c9, c10⟩, -⟩ := z.eleven
      exact bodyPost_ret (v := .tuple #[.agg #[.bool false, .bool false, .bool false, .bool false, .bool false, .int .i64 0, .int .i64 0, .int .u8 0, .bool false, .bool false, .int .i64 0], .bool false]) (by simp [results, Tryz.results41, go_sem, c0, c1, c2, c3, c4, c5, c6, c7, c8, c9, c10]) rfl (by first | exact ⟨rfl, hz⟩ | exact ⟨rfl, (fun h => by cases h), hz⟩)
    | true =>
      have hk2s : k2 ≤ S.size := HK3.out.2
      have hw : wrap64 ((k2 : Int) + 1) = ((k2 + 1 : Nat) : Int) := by unfold wrap64; omega
      have e1 := HR10.out.cell 1
      have e2 := HR10.out.fro 1
      have e3 := HP10.out.cell 10
      have e4 := HP10.out.fro 10
      obtain ⟨⟨c0, c1, c2, c3, c4, c5, c6, c7, c8, c9, -⟩, -⟩ := HP10.out.eleven
      obtain ⟨⟨h0, h1, h2, h3, h4, h5, h6, h7, h8, h9, h10⟩, d0, d1, d2, d3, d4, d5, d6, d7, d8, d9, d10⟩ := HF10.out.eleven
      go_wp2_with fail
      clear c0 c1 c2 c3 c4 c5 c6 c7 c8 c9 e1 e2 e3 e4 h0 h1 h2 h3 h4 h5 h6 h7 h8 h9 h10 d0 d1 d2 d3 d4 d5 d6 d7 d8 d9 d10
      have f11 : Five ((W10.setCell ⟨g, 1, none⟩ (.int .i64 ((k2 : Int) + 1))).setCell ⟨Q, 10, none⟩ (.int .i64 ((k2 : Int) + 1))) B zc 26 := (HF10.out.other (j := 1) (u := .int .i64 ((k2 + 1 : Nat) : Int)) n6).other (j := 10) (u := .int .i64 ((k2 + 1 : Nat) : Int)) n3
      have o11 : Out [g] w ((W10.setCell ⟨g, 1, none⟩ (.int .i64 ((k2 : Int) + 1))).setCell ⟨Q, 10, none⟩ (.int .i64 ((k2 : Int) + 1))) := (HO10.out.set (p := ⟨g, 1, none⟩) (by simp) _).fresh (p := ⟨Q, 10, none⟩) hwQ _
      have r11 : Rdr ((W10.setCell ⟨g, 1, none⟩ (.int .i64 ((k2 : Int) + 1))).setCell ⟨Q, 10, none⟩ (.int .i64 ((k2 : Int) + 1))) g S (k2 + 1) := (HR10.out.step (k2 + 1)).other (j := 10) (u := .int .i64 ((k2 + 1 : Nat) : Int)) n1
      obtain ⟨z, hz⟩ := end11 (.bool b0) (.bool b1) (.bool b2) (.bool b3) (.bool b4) (.int .i64 wd) (.int .i64 (-1)) (.int .u8 (x4 : Int)) (.bool sw) (.bool false) (.int .i64 ((k2 : Int) + 1)) f11 o11 (Nat.le_of_eq HB.out)
      have r12 := r11.eleven_off (.bool b0) (.bool b1) (.bool b2) (.bool b3) (.bool b4) (.int .i64 wd) (.int .i64 (-1)) (.int .u8 (x4 : Int)) (.bool sw) (.bool false) (.int .i64 ((k2 : Int) + 1)) n5
      have r12 : Rdr _ g S (k2 + 1) := r12
      obtain ⟨⟨c0, c1, c2, c3, c4, c5, c6, c7, c8, c9, c10⟩, -⟩ := z.eleven
      exact bodyPost_ret (v := .tuple #[.agg #[.bool b0, .bool b1, .bool b2, .bool b3, .bool b4, .int .i64 wd, .int .i64 (-1), .int .u8 (x4 : Int), .bool sw, .bool false, .int .i64 ((k2 : Int) + 1)], .bool true]) (by simp [results, Tryz.results41, go_sem, c0, c1, c2, c3, c4, c5, c6, c7, c8, c9, c10]) rfl (by first | exact ⟨rfl, r12, hz⟩ | exact ⟨rfl, (fun _ => r12), hz⟩)
end Go.Proofs.YtmceakbjholjpaaGreatDoor

namespace Go.Proofs.YtmceakbjholjpaaGreatDoor
open Go.RowKit Go.Lib

def PartEnd (S : ByteArray) (k g : Nat) (w : World) (e : Ending) (w' : World) : Prop := e = .returned (.tuple #[pcV ((partF S k).getD pc0), .bool (partF S k).isSome]) ∧ (∀ x, partF S k = some x → Rdr w' g S x.nx) ∧ Out [g] w w'
theorem part_any (S : ByteArray) (k g : Nat) (w : World) (hk : k ≤ S.size) (hS : S.size ≤ 4611686018427387904) (hR : Rdr w g S k) :
    Calls Tryz.prog 41 #[.pointer (some ⟨g, 0, none⟩)] w (PartEnd S k g w) := by
  unfold PartEnd
  by_cases h37 : atB S k = 37
  · obtain ⟨v, hv⟩ : ∃ v, vAll.contains (atB S (prAt S (amt S (flE S (k + 1))).2.2).2.2).toUInt8 = v := ⟨_, rfl⟩
    refine (part_rest S k g w hk hS hR h37 (flE S (k + 1)) (amt S (flE S (k + 1))).2.2 (prAt S (amt S (flE S (k + 1))).2.2).2.2 0 (atB S (prAt S (amt S (flE S (k + 1))).2.2).2.2) (amt S (flE S (k + 1))).1 (prAt S (amt S (flE S (k + 1))).2.2).1 (amt S (flE S (k + 1))).2.1 (prAt S (amt S (flE S (k + 1))).2.2).2.1 v rfl rfl rfl rfl hv).mono ?_
    rintro e w' ⟨rfl, h1, h2⟩
    unfold partF
    rw [if_pos h37, hv]
    cases v with
    | true => exact ⟨rfl, fun x hx => by cases hx; exact h1 rfl, h2⟩
    | false => exact ⟨rfl, (fun x hx => by cases hx), h2⟩
  · refine (part_first S k g w hk hS hR h37).mono ?_
    rintro e w' ⟨rfl, h2⟩
    unfold partF
    rw [if_neg h37]
    exact ⟨rfl, (fun x hx => by cases hx), h2⟩
/-- The part of a format that begins at a place, or the fault. -/
def parseF (S : ByteArray) (z : Int) : Option Pc := if 0 ≤ z ∧ z < (S.size : Int) then partF S z.toNat else none
set_option maxRecDepth 100000 in
set_option maxHeartbeats 8000000 in
theorem parse_no (S : ByteArray) (z : Int) (w : World) (h : ¬ (0 ≤ z ∧ z < (S.size : Int))) :
    Calls Tryz.prog 14 #[.string S, .int .i64 z] w fun e w' => e = .returned (.tuple #[pcV pc0, .int .i64 50]) ∧ Below w.heap.size w w' := by
  have f0 := Five.new w zc 26
  have hO := Lib.hid ((Out.refl [] w).alloc (.cells zc 26))
  have hcase : z < 0 ∨ (0 ≤ z ∧ ¬ z < (S.size : Int) ∧ (S.size : Int) ≤ z) := by omega
  have HF := Lib.hid f0
  clear h f0
  rcases hcase with h1 | ⟨h1, h2, h3⟩
  all_goals
    obtain ⟨⟨c0, c1, c2, c3, c4, c5, c6, c7, c8, c9, c10⟩, d0, d1, d2, d3, d4, d5, d6, d7, d8, d9, d10⟩ := HF.out.eleven
    go_enter Tryz.func14, Tryz.ntmps14
    go_wp2_with fail
    exact bodyPost_ret (v := .tuple #[.agg #[.bool false, .bool false, .bool false, .bool false, .bool false, .int .i64 0, .int .i64 0, .int .u8 0, .bool false, .bool false, .int .i64 0], .int .i64 50]) (by simp [results, Tryz.results14, go_sem, c0, c1, c2, c3, c4, c5, c6, c7, c8, c9, c10]) rfl ⟨rfl, (Below.refl _ _).alloc (Nat.le_refl _) _⟩
set_option maxRecDepth 100000 in
set_option maxHeartbeats 8000000 in
theorem parse_in (S : ByteArray) (k : Nat) (w : World) (h : k < S.size) (hS : S.size ≤ 4611686018427387904) (y : Option Pc) (hy : partF S k = y) :
    Calls Tryz.prog 14 #[.string S, .int .i64 (k : Int)] w fun e w' => e = .returned (.tuple #[pcV (y.getD pc0), .int .i64 (if y.isSome = true then 0 else 50)]) ∧ Below w.heap.size w w' := by
  have h1 : ¬ (k : Int) < 0 := by omega
  have h2 : (k : Int) < (S.size : Int) := by omega
  have cP := fun (g : Nat) (W : World) (hR : Rdr W g S k) => part_any S k g W (by omega) hS hR
  unfold PartEnd at cP
  rw [hy] at cP
  have fB := (Five.new w zc 26).alloc (.cells #[.string S, .int .i64 (k : Int)] 78)
  have fR := Five.new (w.alloc (.cells zc 26)) #[.string S, .int .i64 (k : Int)] 78
  have hO := ((Out.refl [w.heap.size + 1] w).alloc (.cells zc 26)).alloc (.cells #[.string S, .int .i64 (k : Int)] 78)
  rw [World.size_alloc] at fR
  obtain ⟨B, hB⟩ : ∃ B, w.heap.size = B := ⟨_, rfl⟩
  obtain ⟨W2, hW2⟩ : ∃ W2, (w.alloc (.cells zc 26)).alloc (.cells #[.string S, .int .i64 (k : Int)] 78) = W2 := ⟨_, rfl⟩
  rw [hW2] at fB fR hO
  rw [hB] at fB fR hO ⊢
  have HB := Lib.hid hB
  have HW2 := Lib.hid hW2
  have HFB := Lib.hid fB
  have HFR := Lib.hid (show Rdr W2 (B + 1) S k from fR)
  have HO := Lib.hid hO
  have CP := Lib.hid cP
  clear cP h hy hB hW2 fB fR hO
  cases y with
  | none =>
    go_enter Tryz.func14, Tryz.ntmps14
    go_wp2_with fail
    change Calls _ _ _ ((w.alloc (.cells zc 26)).alloc (.cells #[.string S, .int .i64 (k : Int)] 78)) _
    rw [HW2.out, HB.out]
    refine (CP.out (B + 1) _ HFR.out).mono ?_
    rintro e W3 ⟨rfl, -, o3⟩
    have HF3 := Lib.hid (o3.five HFB.out (by simp))
    have HO3 := Lib.hid (HO.out.trans o3)
    clear o3
    have HF4 := Lib.hid (HF3.out.alloc (.cells zc 26))
    have HO4 := Lib.hid (HO3.out.alloc (.cells zc 26))
    obtain ⟨⟨c0, c1, c2, c3, c4, c5, c6, c7, c8, c9, c10⟩, d0, d1, d2, d3, d4, d5, d6, d7, d8, d9, d10⟩ := HF4.out.eleven
    rw [show pcV ((none : Option Pc).getD pc0) = .agg zc from rfl]
    go_wp2_with fail
    clear c0 c1 c2 c3 c4 c5 c6 c7 c8 c9 c10 d0 d1 d2 d3 d4 d5 d6 d7 d8 d9 d10
    obtain ⟨z, hz⟩ := end11 (.bool false) (.bool false) (.bool false) (.bool false) (.bool false) (.int .i64 0) (.int .i64 0) (.int .u8 0) (.bool false) (.bool false) (.int .i64 0) HF4.out HO4.out (Nat.le_of_eq HB.out)
    obtain ⟨⟨c0, c1, c2, c3, c4, c5, c6, c7, c8, c9, c10⟩, -⟩ := z.eleven
    have hzb : Below B w _ := hz.below (Nat.le_of_eq HB.out.symm) (by simp)
    exact bodyPost_ret (v := .tuple #[.agg #[.bool false, .bool false, .bool false, .bool false, .bool false, .int .i64 0, .int .i64 0, .int .u8 0, .bool false, .bool false, .int .i64 0], .int .i64 50]) (by simp [results, Tryz.results14, go_sem, c0, c1, c2, c3, c4, c5, c6, c7, c8, c9, c10]) rfl ⟨rfl, hzb⟩
  | some x =>
    obtain ⟨m, p, b, a, z, wd, pr, c, sw, sp, nx⟩ := x
    go_enter Tryz.func14, Tryz.ntmps14
    go_wp2_with fail
    change Calls _ _ _ ((w.alloc (.cells zc 26)).alloc (.cells #[.string S, .int .i64 (k : Int)] 78)) _
    rw [HW2.out, HB.out]
    refine (CP.out (B + 1) _ HFR.out).mono ?_
    rintro e W3 ⟨rfl, -, o3⟩
    have HF3 := Lib.hid (o3.five HFB.out (by simp))
    have HO3 := Lib.hid (HO.out.trans o3)
    clear o3
    have HF4 := Lib.hid (HF3.out.alloc (.cells #[.bool m, .bool p, .bool b, .bool a, .bool z, .int .i64 wd, .int .i64 pr, .int .u8 (c : Int), .bool sw, .bool sp, .int .i64 (nx : Int)] 26))
    have HO4 := Lib.hid (HO3.out.alloc (.cells #[.bool m, .bool p, .bool b, .bool a, .bool z, .int .i64 wd, .int .i64 pr, .int .u8 (c : Int), .bool sw, .bool sp, .int .i64 (nx : Int)] 26))
    obtain ⟨⟨c0, c1, c2, c3, c4, c5, c6, c7, c8, c9, c10⟩, d0, d1, d2, d3, d4, d5, d6, d7, d8, d9, d10⟩ := HF4.out.eleven
    obtain ⟨⟨e0, e1, e2, e3, e4, e5, e6, e7, e8, e9, e10⟩, -⟩ := (Five.new W3 #[.bool m, .bool p, .bool b, .bool a, .bool z, .int .i64 wd, .int .i64 pr, .int .u8 (c : Int), .bool sw, .bool sp, .int .i64 (nx : Int)] 26).eleven
    rw [show pcV ((some (⟨m, p, b, a, z, wd, pr, c, sw, sp, nx⟩ : Pc)).getD pc0) = .agg #[.bool m, .bool p, .bool b, .bool a, .bool z, .int .i64 wd, .int .i64 pr, .int .u8 (c : Int), .bool sw, .bool sp, .int .i64 (nx : Int)] from rfl]
    go_wp2_with fail
    clear c0 c1 c2 c3 c4 c5 c6 c7 c8 c9 c10 d0 d1 d2 d3 d4 d5 d6 d7 d8 d9 d10 e0 e1 e2 e3 e4 e5 e6 e7 e8 e9 e10
    obtain ⟨z', hz⟩ := end11 (.bool m) (.bool p) (.bool b) (.bool a) (.bool z) (.int .i64 wd) (.int .i64 pr) (.int .u8 (c : Int)) (.bool sw) (.bool sp) (.int .i64 (nx : Int)) HF4.out HO4.out (Nat.le_of_eq HB.out)
    obtain ⟨⟨c0, c1, c2, c3, c4, c5, c6, c7, c8, c9, c10⟩, -⟩ := z'.eleven
    have hzb : Below B w _ := hz.below (Nat.le_of_eq HB.out.symm) (by simp)
    exact bodyPost_ret (v := .tuple #[.agg #[.bool m, .bool p, .bool b, .bool a, .bool z, .int .i64 wd, .int .i64 pr, .int .u8 (c : Int), .bool sw, .bool sp, .int .i64 (nx : Int)], .int .i64 0]) (by simp [results, Tryz.results14, go_sem, c0, c1, c2, c3, c4, c5, c6, c7, c8, c9, c10]) rfl ⟨rfl, hzb⟩
def pErr (y : Option Pc) : Int := if y.isSome = true then 0 else 50
theorem fparse_any (S : ByteArray) (z : Int) (w : World) (hS : S.size ≤ 4611686018427387904) :
    Calls Tryz.prog 14 #[.string S, .int .i64 z] w fun e w' => e = .returned (.tuple #[pcV ((parseF S z).getD pc0), .int .i64 (pErr (parseF S z))]) ∧ Below w.heap.size w w' := by
  by_cases h : 0 ≤ z ∧ z < (S.size : Int)
  · obtain ⟨k, rfl⟩ : ∃ k : Nat, z = (k : Int) := ⟨z.toNat, by omega⟩
    have hp : parseF S (k : Int) = partF S k := by unfold parseF; rw [if_pos h, Int.toNat_natCast]
    rw [hp]
    exact parse_in S k w (by omega) hS _ rfl
  · have hp : parseF S z = none := by unfold parseF; rw [if_neg h]
    rw [hp]
    exact parse_no S z w h
end Go.Proofs.YtmceakbjholjpaaGreatDoor

namespace Go.Proofs.YtmceakbjholjpaaGreatDoor
open Go.RowKit Go.Lib

def AscL (l : List UInt8) : Prop := ∀ c ∈ l, c.toNat < 128
theorem upper_asc (s : ByteArray) (w : World) (hs : s.size ≤ 100000) (ha : AscL s.data.toList) : Calls Tryz.prog 93 #[.string s] w fun e w' => e = .returned (.string ⟨(Lib.toUpperA s.data.toList).toArray⟩) ∧ Below w.heap.size w w' :=
  Tryz.strings_ToUpper_ascii s w (by omega) (fun j b hb => ha b (List.mem_of_getElem? hb))
theorem upper_len (l : List UInt8) : (Lib.toUpperA l).length = l.length := by unfold Lib.toUpperA; rw [List.length_map]
theorem ba_three (a b d : ByteArray) : a ++ b ++ d = ⟨(a.data.toList ++ b.data.toList ++ d.data.toList).toArray⟩ := by
  apply ByteArray.ext
  apply Array.toList_inj.1
  rw [ByteArray.data_append, ByteArray.data_append, Array.toList_append, Array.toList_append]
theorem ba_four (a b z d : ByteArray) : a ++ b ++ z ++ d = ⟨(a.data.toList ++ (b.data.toList ++ (z.data.toList ++ d.data.toList))).toArray⟩ := by
  apply ByteArray.ext
  apply Array.toList_inj.1
  rw [ByteArray.data_append, ByteArray.data_append, ByteArray.data_append, Array.toList_append, Array.toList_append, Array.toList_append, List.append_assoc, List.append_assoc]
def PadEnd (w : World) (X : ByteArray) (e : Ending) (w' : World) : Prop := e = .returned (.string X) ∧ Below w.heap.size w w'
set_option maxRecDepth 100000 in
set_option maxHeartbeats 8000000 in
theorem padded_core (m p b a z : Bool) (wd pr : Int) (c : Nat) (no : Bool) (SG BS DS BU DU X : ByteArray) (w : World) (hw0 : -100000 ≤ wd) (hw1 : wd ≤ 100000) (s1 : SG.size ≤ 10) (s2 : BS.size ≤ 10) (s3 : DS.size ≤ 20000) (a2 : AscL BS.data.toList) (a3 : AscL DS.data.toList)
    (hU : if vCap.contains c.toUInt8 = true then BU = ⟨(Lib.toUpperA BS.data.toList).toArray⟩ ∧ DU = ⟨(Lib.toUpperA DS.data.toList).toArray⟩ else BU = BS ∧ DU = DS)
    (hX : X = ⟨(laidL SG.data.toList BU.data.toList DU.data.toList wd m no).toArray⟩) :
    Calls Tryz.prog 58 #[.agg #[.string SG, .string BS, .string DS], .agg #[.bool m, .bool p, .bool b, .bool a, .bool z, .int .i64 wd, .int .i64 pr, .int .u8 (c : Int)], .bool no] w (PadEnd w X) := by
  have cA := fun W => among_any ⟨#[88, 69, 70, 71]⟩ c W
  replace cA : ∀ w : World, Calls Tryz.prog 46 #[.string ⟨#[88, 69, 70, 71]⟩, .int .u8 (c : Int)] w fun e w' => e = .returned (.bool (vCap.contains c.toUInt8)) ∧ w = w' := cA
  have u2 : BU.size = BS.size := by
    split at hU
    · rw [hU.1, ← ba_len, ← ba_len]; exact upper_len _
    · rw [hU.1]
  have u3 : DU.size = DS.size := by
    split at hU
    · rw [hU.2, ← ba_len, ← ba_len]; exact upper_len _
    · rw [hU.2]
  have t2 : BU.size ≤ 10 := by omega
  have t3 : DU.size ≤ 20000 := by omega
  clear u2 u3
  have CB := Lib.hid (fun W => upper_asc BS W (by omega) a2)
  have CD := Lib.hid (fun W => upper_asc DS W (by omega) a3)
  obtain ⟨v, hv⟩ : ∃ v, vCap.contains c.toUInt8 = v := ⟨_, rfl⟩
  rw [hv] at cA hU
  have CA := Lib.hid cA
  have HU := Lib.hid hU
  clear cA hv hU a2 a3
  have fW := (Five.new w #[.string SG, .string BS, .string DS] 96).alloc (.cells #[.bool m, .bool p, .bool b, .bool a, .bool z, .int .i64 wd, .int .i64 pr, .int .u8 (c : Int)] 24)
  have fP := Five.new (w.alloc (.cells #[.string SG, .string BS, .string DS] 96)) #[.bool m, .bool p, .bool b, .bool a, .bool z, .int .i64 wd, .int .i64 pr, .int .u8 (c : Int)] 24
  have hB0 := ((Below.refl w.heap.size w).alloc (Nat.le_refl _) (.cells #[.string SG, .string BS, .string DS] 96)).alloc (by simp) (.cells #[.bool m, .bool p, .bool b, .bool a, .bool z, .int .i64 wd, .int .i64 pr, .int .u8 (c : Int)] 24)
  rw [World.size_alloc] at fP
  have hsz : ((w.alloc (.cells #[.string SG, .string BS, .string DS] 96)).alloc (.cells #[.bool m, .bool p, .bool b, .bool a, .bool z, .int .i64 wd, .int .i64 pr, .int .u8 (c : Int)] 24)).heap.size = w.heap.size + 2 := by rw [World.size_alloc, World.size_alloc]
  unfold PadEnd
  obtain ⟨B, hB⟩ : ∃ B, w.heap.size = B := ⟨_, rfl⟩
  obtain ⟨W2, hW2⟩ : ∃ W2, (w.alloc (.cells #[.string SG, .string BS, .string DS] 96)).alloc (.cells #[.bool m, .bool p, .bool b, .bool a, .bool z, .int .i64 wd, .int .i64 pr, .int .u8 (c : Int)] 24) = W2 := ⟨_, rfl⟩
  rw [hW2] at fP fW hB0 hsz
  rw [hB] at fP fW hB0 hsz ⊢
  have FP := Lib.hid fP
  have FW := Lib.hid fW
  have HB0 := Lib.hid hB0
  have HSZ := Lib.hid hsz
  have HW2 := Lib.hid hW2
  have HB := Lib.hid hB
  have HX := Lib.hid hX
  clear fP fW hB0 hsz hW2 hB hX
  go_enter Tryz.func58, Tryz.ntmps58
  go_upto_if 11 with (go_at_call 46; refine (CA.out _).mono ?_; rintro e w' ⟨rfl, rfl⟩)
  rw [HW2.out, HB.out]
  go_cut [] (fun wx => Five wx B #[.string SG, .string BU, .string DU] 96 ∧ Five wx (B + 1) #[.bool m, .bool p, .bool b, .bool a, .bool z, .int .i64 wd, .int .i64 pr, .int .u8 (c : Int)] 24 ∧ Below B w wx)
  case first =>
    cases v with
    | false =>
      have hU2 := HU.out
      rw [if_neg (by decide)] at hU2
      obtain ⟨rfl, rfl⟩ := hU2
      go_wp2_with fail
      go_meet
      exact ⟨FW.out, FP.out, HB0.out⟩
    | true =>
      have hU2 := HU.out
      rw [if_pos rfl] at hU2
      obtain ⟨hU3, hU4⟩ := hU2
      have CB := CB.out
      have CD := CD.out
      rw [← hU3] at CB
      rw [← hU4] at CD
      have CB := Lib.hid CB
      have CD := Lib.hid CD
      clear hU3 hU4
      have HCW := Lib.hid (fun (W : World) (h : Below W2.heap.size W2 W) => (FW.out.below h).three)
      obtain ⟨q0, q1, q2, r0, r1, r2⟩ := FW.out.three
      go_wp2_with fail
      go_region_with (first
        | (go_at_call 93; (with_reducible refine (CB.out _).mono ?_); rintro e W3 ⟨rfl, h3⟩; have b3 : Below W2.heap.size W2 W3 := ⟨h3.os, h3.tape, h3.output, h3.size, h3.block⟩; obtain ⟨q0, q1, q2, r0, r1, r2⟩ := HCW.out _ b3; clear h3)
        | (go_at_call 93; (with_reducible refine (CD.out _).mono ?_); rintro e W4 ⟨rfl, h4⟩; have b4 : Below W2.heap.size W2 W4 := b3.trans ((⟨h4.os, h4.tape, h4.output, h4.size, h4.block⟩ : Below W3.heap.size W3 W4).mono b3.size); obtain ⟨q0, q1, q2, r0, r1, r2⟩ := HCW.out _ b4; clear h4))
      all_goals
        go_wp2_with fail
        go_meet
        have f4 : Five ((W4.setCell ⟨B, 1, none⟩ (.string BU)).setCell ⟨B, 2, none⟩ (.string DU)) B #[.string SG, .string BU, .string DU] 96 := ((FW.out.below b4).set (j := 1) (u := .string BU)).set (j := 2) (u := .string DU)
        have p4 : Five ((W4.setCell ⟨B, 1, none⟩ (.string BU)).setCell ⟨B, 2, none⟩ (.string DU)) (B + 1) #[.bool m, .bool p, .bool b, .bool a, .bool z, .int .i64 wd, .int .i64 pr, .int .u8 (c : Int)] 24 := ((FP.out.below b4).other (j := 1) (u := .string BU) (by omega)).other (j := 2) (u := .string DU) (by omega)
        have hB4 : Below B w ((W4.setCell ⟨B, 1, none⟩ (.string BU)).setCell ⟨B, 2, none⟩ (.string DU)) := ((HB0.out.trans (b4.mono (by have := HSZ.out; omega))).setCell (p := ⟨B, 1, none⟩) (Nat.le_refl _) _).setCell (p := ⟨B, 2, none⟩) (Nat.le_refl _) _
        first
        | exact ⟨f4, p4, hB4⟩
        | exact ⟨⟨f4.row⟩, ⟨p4.row⟩, ⟨hB4.os, hB4.tape, hB4.output, hB4.size, hB4.block⟩⟩
  case rest =>
    obtain ⟨F, Pc, hBx⟩ := hcut
    obtain ⟨q0, q1, q2, -, -, -⟩ := F.three
    obtain ⟨p0, -, -, -, -, p5, -, -⟩ := spec_cells Pc
    have hBw : B ≤ wc.heap.size := Nat.le_of_lt F.lt
    have HBX := Lib.hid hBx
    have HF := Lib.hid F
    have hlen : ((SG.data.toList ++ BU.data.toList ++ DU.data.toList).length : Int) = (SG.size : Int) + (BU.size : Int) + (DU.size : Int) := by
      rw [List.length_append, List.length_append, ba_len, ba_len, ba_len]; omega
    have hbd : (SG ++ BU ++ DU).size ≤ 1099511627776 := by rw [ByteArray.size_append, ByteArray.size_append]; omega
    have CF := Lib.hid (fun W => fill_any (SG ++ BU ++ DU) (wd - ((SG.size : Int) + (BU.size : Int) + (DU.size : Int))) m W hbd (by omega) (by omega))
    have CR := Lib.hid (fun W => rep_any 48 (wd - ((SG.size : Int) + (BU.size : Int) + (DU.size : Int))) W (by omega) (by omega))
    have HX2 := Lib.hid (show X = (if no = true ∧ m = false then SG ++ BU ++ ⟨(List.replicate (wd - ((SG.size : Int) + (BU.size : Int) + (DU.size : Int))).toNat (48 : UInt8)).toArray⟩ ++ DU else ⟨(fillL (SG ++ BU ++ DU).data.toList (wd - ((SG.size : Int) + (BU.size : Int) + (DU.size : Int))) m).toArray⟩) by
      rw [HX.out]
      unfold laidL
      rw [hlen]
      split
      · rw [ba_four]
      · rw [ba_three])
    clear hlen hbd F Pc hBx HX HU CB CD CA FP FW HSZ HB0
    by_cases hc : no = true ∧ m = false
    · have HX3 := HX2.out
      rw [if_pos hc] at HX3
      obtain ⟨rfl, rfl⟩ := hc
      obtain ⟨Z, hZ⟩ : ∃ Z : ByteArray, (⟨(List.replicate (wd - ((SG.size : Int) + (BU.size : Int) + (DU.size : Int))).toNat (48 : UInt8)).toArray⟩ : ByteArray) = Z := ⟨_, rfl⟩
      have hZs : Z.size ≤ 1000000 := by rw [← ba_len, ← hZ]; show (List.replicate _ (48 : UInt8)).length ≤ _; rw [List.length_replicate]; omega
      have c1 : ¬ 9223372036854775807 < SG.size + BU.size := by omega
      have c2 : ¬ 9223372036854775807 < SG.size + BU.size + Z.size := by omega
      have c3 : ¬ 9223372036854775807 < SG.size + BU.size + Z.size + DU.size := by omega
      have CR := CR.out
      rw [hZ] at CR HX3
      have CR := Lib.hid CR
      have HX3 := Lib.hid HX3
      clear hZ HX2 CF
      have HCW := Lib.hid (fun (W : World) (h : Below wc.heap.size wc W) => (show W.cell? ⟨B, 0, none⟩ = some (.string SG) ∧ W.cell? ⟨B, 1, none⟩ = some (.string BU) ∧ W.cell? ⟨B, 2, none⟩ = some (.string DU) from ⟨(HF.out.below h).cell 0, (HF.out.below h).cell 1, (HF.out.below h).cell 2⟩))
      go_wp2_with fail
      go_region_held3 (fun w' => w'.cell? ⟨B, 0, none⟩ = some (.string SG) ∧ w'.cell? ⟨B, 1, none⟩ = some (.string BU) ∧ w'.cell? ⟨B, 2, none⟩ = some (.string DU))
        (first | (with_reducible exact S1) | go_keep)
        (first
        | (go_at_call 85; (with_reducible refine (CR.out _).mono ?_); rintro e W3 ⟨rfl, h3⟩; have b3 : Below wc.heap.size wc W3 := ⟨h3.os, h3.tape, h3.output, h3.size, h3.block⟩; have S1 := HCW.out _ b3; clear h3))
      all_goals
        have hBf := HBX.out.trans (b3.mono hBw)
        go_wp2_with fail
        go_ret
        exact ⟨by show Ending.returned (.string (SG ++ BU ++ Z ++ DU)) = _; rw [HX3.out], by first | exact hBf | exact ⟨hBf.os, hBf.tape, hBf.output, hBf.size, hBf.block⟩⟩
    · have HX3 := HX2.out
      rw [if_neg hc] at HX3
      have CF := CF.out
      obtain ⟨Y, hY⟩ : ∃ Y : ByteArray, (⟨(fillL (SG ++ BU ++ DU).data.toList (wd - ((SG.size : Int) + (BU.size : Int) + (DU.size : Int))) m).toArray⟩ : ByteArray) = Y := ⟨_, rfl⟩
      rw [hY] at CF HX3
      have CF := Lib.hid CF
      have HX3 := Lib.hid HX3
      clear HX2 CR hY
      have hc2 : no = false ∨ (no = true ∧ m = true) := by
        cases no
        · exact Or.inl rfl
        · cases m
          · exact absurd ⟨rfl, rfl⟩ hc
          · exact Or.inr ⟨rfl, rfl⟩
      clear hc
      rcases hc2 with rfl | ⟨rfl, rfl⟩
      all_goals
        go_wp2_with fail
        refine (CF.out _).mono ?_
        rintro e W3 ⟨rfl, h3⟩
        have hBf := HBX.out.trans (h3.mono hBw)
        clear h3
        go_wp2_with fail
        go_ret
        exact ⟨by show Ending.returned (.string Y) = _; rw [HX3.out], hBf⟩
theorem asc_dec {l : List UInt8} (h : Dec l) : AscL l := fun c hc => by have := h c hc; omega
theorem asc_app {l k : List UInt8} (h : AscL l) (g : AscL k) : AscL (l ++ k) := fun c hc => (List.mem_append.1 hc).elim (h c) (g c)
theorem asc_sub {l k : List UInt8} (h : AscL l) (g : ∀ c ∈ k, c ∈ l) : AscL k := fun c hc => h c (g c hc)
theorem asc_cons {x : UInt8} {l : List UInt8} (hx : x.toNat < 128) (h : AscL l) : AscL (x :: l) := fun c hc => by
  rcases List.mem_cons.1 hc with rfl | hc
  · exact hx
  · exact h c hc
theorem asc_nil : AscL [] := fun c hc => by cases hc
theorem asc_ptT {d : List UInt8} (h : Dec d) (q : Bool) : AscL (ptT d q) := by
  unfold ptT
  split
  · exact asc_app (asc_dec (dec_take h 1)) (asc_cons (by decide) (asc_dec (dec_drop h 1)))
  · exact asc_dec h
theorem asc_expT (P : Int) : AscL (expT P) := by
  unfold expT
  refine asc_app ?_ (asc_app ?_ (asc_dec (dec_decs _)))
  · split
    · exact asc_cons (by decide) (asc_cons (by decide) asc_nil)
    · exact asc_cons (by decide) (asc_cons (by decide) asc_nil)
  · split
    · exact asc_cons (by decide) asc_nil
    · exact asc_nil
theorem asc_fixP (r q : Nat) (full : Bool) : AscL (fixP r q full) := by
  unfold fixP
  refine asc_app ?_ ?_
  · unfold fixT
    split
    · exact asc_dec (dec_decs _)
    · exact asc_app (asc_dec (dec_take (padT_dec (dec_decs _) _) _)) (asc_cons (by decide) (asc_dec (dec_drop (padT_dec (dec_decs _) _) _)))
  · split
    · exact asc_cons (by decide) asc_nil
    · exact asc_nil
theorem asc_trimG (full : Bool) {d : List UInt8} (h : AscL d) : AscL (trimG full d) := by
  unfold trimG
  split
  · refine asc_sub h fun c hc => ?_
    obtain ⟨k, hk⟩ := trim_split d 48
    have h1 : c ∈ Lib.trimRightB d 48 := by
      unfold Lib.trimSuffix at hc
      split at hc
      · exact List.mem_of_mem_take hc
      · exact hc
    rw [hk]
    exact List.mem_append_left _ h1
  · exact h
theorem asc_gen (w : World) {r n : Nat} (hr : r < 9218868437227405312) (hn : n ≤ 200) (full : Bool) : AscL (genT r n full) := by
  unfold genT
  split
  · exact asc_app (asc_trimG _ (asc_ptT (sciX_facts w hr hn).2.1 _)) (asc_expT _)
  · exact asc_trimG _ (asc_fixP _ _ _)
theorem asc_ptD (w : World) {r : Nat} (hr : r < 9218868437227405312) {pr : Int} (_h0 : -1 ≤ pr) (h1 : pr ≤ 190) (a : Bool) (c : Nat) : AscL (ptD r pr a c) := by
  have hq : (if pr < 0 then (6 : Int) else pr).toNat ≤ 190 := by split <;> omega
  have hq2 : (max 1 (if pr < 0 then (6 : Int) else pr) - 1).toNat ≤ 190 := by split <;> omega
  unfold ptD
  split
  · exact asc_fixP _ _ _
  · split
    · exact asc_app (asc_ptT (sciX_facts w hr (by omega)).2.1 _) (asc_expT _)
    · exact asc_gen w hr (by omega) _
theorem trimG_len (full : Bool) (d : List UInt8) : (trimG full d).length ≤ d.length := by
  unfold trimG
  split
  · exact Nat.le_trans (trimS_len _ _) (trimR_len _ _)
  · omega
theorem len_gen (w : World) {r n : Nat} (hr : r < 9218868437227405312) (hn : n ≤ 190) (full : Bool) : (genT r n full).length ≤ 4000 := by
  obtain ⟨hl, -, b0, b1⟩ := sciX_facts w hr (show n ≤ 200 by omega)
  unfold genT
  split
  · rw [List.length_append]
    have h1 := trimG_len full (ptT (sciX r n).1 (decide (0 < n) || full))
    have h2 := ptT_len (sciX r n).1 (decide (0 < n) || full)
    have h3 := expT_len b0 b1
    omega
  · refine Nat.le_trans (trimG_len _ _) (Nat.le_trans (fixP_len hr (by omega) _) (by omega))
theorem len_ptD (w : World) {r : Nat} (hr : r < 9218868437227405312) {pr : Int} (_h0 : -1 ≤ pr) (h1 : pr ≤ 190) (a : Bool) (c : Nat) : (ptD r pr a c).length ≤ 4000 := by
  have hq : (if pr < 0 then (6 : Int) else pr).toNat ≤ 190 := by split <;> omega
  have hq2 : (max 1 (if pr < 0 then (6 : Int) else pr) - 1).toNat ≤ 190 := by split <;> omega
  unfold ptD
  split
  · exact Nat.le_trans (fixP_len hr (by omega) _) (by omega)
  · split
    · obtain ⟨hl, -, b0, b1⟩ := sciX_facts w hr (show (if pr < 0 then (6 : Int) else pr).toNat ≤ 200 by omega)
      rw [List.length_append]
      have h2 := ptT_len (sciX r (if pr < 0 then (6 : Int) else pr).toNat).1 (decide (0 < (if pr < 0 then (6 : Int) else pr).toNat) || a)
      have h3 := expT_len b0 b1
      omega
    · exact len_gen w hr (by omega) _
end Go.Proofs.YtmceakbjholjpaaGreatDoor

namespace Go.Proofs.YtmceakbjholjpaaGreatDoor
open Go.RowKit Go.Lib

/-- Floats in order: a whole number for each that is no NaN. -/
def keyZ (x : Nat) : Int := if (x / 9223372036854775808 % 2 == 1) = true then -(mag x : Int) else (mag x : Int)
theorem cmp_ext {a b c d : Int} (h1 : a < b ↔ c < d) (h2 : a = b ↔ c = d) : compare a b = compare c d := by
  rcases Int.lt_trichotomy a b with h | h | h
  · rw [Int.compare_eq_lt.2 h, Int.compare_eq_lt.2 (h1.1 h)]
  · rw [Int.compare_eq_eq.2 h, Int.compare_eq_eq.2 (h2.1 h)]
  · rw [Int.compare_eq_gt.2 h, Int.compare_eq_gt.2 (by omega)]
theorem cmp_iff {a b c d : Int} (h : compare a b = compare c d) : (a < b ↔ c < d) ∧ (a = b ↔ c = d) :=
  ⟨by rw [← Int.compare_eq_lt, ← Int.compare_eq_lt, h], by rw [← Int.compare_eq_eq, ← Int.compare_eq_eq, h]⟩
theorem manF_zero {r : Nat} : manF r = 0 ↔ r = 0 := by
  unfold manF
  split <;> omega
theorem order_key {x y : Nat} (hx : mag x ≤ 9218868437227405312) (hy : mag y ≤ 9218868437227405312) : Ieee.double.order x y = some (compare (keyZ x) (keyZ y)) := by
  unfold Ieee.Format.order keyZ
  have bx := mag_lt x
  have by' := mag_lt y
  rcases Nat.lt_or_ge (mag x) 9218868437227405312 with h1 | h1
  · rcases Nat.lt_or_ge (mag y) 9218868437227405312 with h2 | h2
    · have hV := order_V h1 h2
      unfold Ieee.Format.order at hV
      rw [read_fin (by rw [mag_no h1]; exact h1), read_fin (by rw [mag_no h2]; exact h2), mag_no h1, mag_no h2] at hV
      rw [read_fin h1, read_fin h2]
      have s1 : (mag x / 9223372036854775808 % 2 == 1) = false := by rw [beq_eq_false_iff_ne]; omega
      have s2 : (mag y / 9223372036854775808 % 2 == 1) = false := by rw [beq_eq_false_iff_ne]; omega
      rw [s1, s2] at hV
      change some (compare (Ieee.signed false (manF (mag x)) (expF (mag x) - min (expF (mag x)) (expF (mag y))).toNat) (Ieee.signed false (manF (mag y)) (expF (mag y) - min (expF (mag x)) (expF (mag y))).toNat)) = _ at hV
      change some (compare (Ieee.signed _ (manF (mag x)) (expF (mag x) - min (expF (mag x)) (expF (mag y))).toNat) (Ieee.signed _ (manF (mag y)) (expF (mag y) - min (expF (mag x)) (expF (mag y))).toNat)) = _
      have hz1 := @manF_zero (mag x)
      have hz2 := @manF_zero (mag y)
      generalize (x / 9223372036854775808 % 2 == 1) = sx
      generalize (y / 9223372036854775808 % 2 == 1) = sy
      generalize (expF (mag x) - min (expF (mag x)) (expF (mag y))).toNat = k1 at *
      generalize (expF (mag y) - min (expF (mag x)) (expF (mag y))).toNat = k2 at *
      generalize manF (mag x) = m1 at *
      generalize manF (mag y) = m2 at *
      unfold Ieee.signed at hV ⊢
      have q1 : m1 <<< k1 = 0 ↔ m1 = 0 := by
        rw [Nat.shiftLeft_eq]
        constructor
        · intro h
          rcases Nat.mul_eq_zero.1 h with h | h
          · exact h
          · have := Nat.pow_pos (n := k1) (show 0 < 2 by omega); omega
        · rintro rfl; exact Nat.zero_mul _
      have q2 : m2 <<< k2 = 0 ↔ m2 = 0 := by
        rw [Nat.shiftLeft_eq]
        constructor
        · intro h
          rcases Nat.mul_eq_zero.1 h with h | h
          · exact h
          · have := Nat.pow_pos (n := k2) (show 0 < 2 by omega); omega
        · rintro rfl; exact Nat.zero_mul _
      generalize m1 <<< k1 = A at *
      generalize m2 <<< k2 = C at *
      obtain ⟨e1, e2⟩ := cmp_iff (Option.some.inj hV)
      simp only [Bool.false_eq_true, ↓reduceIte] at e1 e2
      congr 1
      have n1 : A = 0 ↔ mag x = 0 := q1.trans hz1
      have n2 : C = 0 ↔ mag y = 0 := q2.trans hz2
      clear q1 q2 hz1 hz2 hV
      cases sx <;> cases sy <;> simp only [Bool.false_eq_true, ↓reduceIte]
      all_goals refine cmp_ext ⟨fun h => ?_, fun h => ?_⟩ ⟨fun h => ?_, fun h => ?_⟩ <;> omega
    · rw [read_fin h1, read_inf (by omega)]
      show some (if (y / 9223372036854775808 % 2 == 1) then Ordering.gt else Ordering.lt) = _
      generalize (x / 9223372036854775808 % 2 == 1) = sx
      generalize (y / 9223372036854775808 % 2 == 1) = sy
      congr 1
      cases sx <;> cases sy <;> simp only [Bool.false_eq_true, ↓reduceIte]
      · exact (Int.compare_eq_lt.2 (by omega)).symm
      · exact (Int.compare_eq_gt.2 (by omega)).symm
      · exact (Int.compare_eq_lt.2 (by omega)).symm
      · exact (Int.compare_eq_gt.2 (by omega)).symm
  · rcases Nat.lt_or_ge (mag y) 9218868437227405312 with h2 | h2
    · rw [read_inf (by omega), read_fin h2]
      show some (if (x / 9223372036854775808 % 2 == 1) then Ordering.lt else Ordering.gt) = _
      generalize (x / 9223372036854775808 % 2 == 1) = sx
      generalize (y / 9223372036854775808 % 2 == 1) = sy
      congr 1
      cases sx <;> cases sy <;> simp only [Bool.false_eq_true, ↓reduceIte]
      · exact (Int.compare_eq_gt.2 (by omega)).symm
      · exact (Int.compare_eq_gt.2 (by omega)).symm
      · exact (Int.compare_eq_lt.2 (by omega)).symm
      · exact (Int.compare_eq_lt.2 (by omega)).symm
    · rw [read_inf (by omega), read_inf (by omega)]
      have e1 : mag x = 9218868437227405312 := by omega
      have e2 : mag y = 9218868437227405312 := by omega
      rw [e1, e2]
      generalize (x / 9223372036854775808 % 2 == 1) = sx
      generalize (y / 9223372036854775808 % 2 == 1) = sy
      cases sx <;> cases sy <;> rfl
theorem order_nan_l {x y : Nat} (h : 9218868437227405312 < mag x) : Ieee.double.order x y = none := by
  unfold Ieee.Format.order
  rw [read_nan h]
  rfl
/-- Is it +inf, is it -inf? -/
def infP (x : Nat) : Bool := decide (x = 9218868437227405312)
def infM (x : Nat) : Bool := decide (x = 18442240474082181120)
theorem inf_gt (x : Nat) (hb : x < 18446744073709551616) : (FloatKind.f64.format.order x 9218868437227405311 == some .gt) = infP x := by
  change (Ieee.double.order x 9218868437227405311 == some .gt) = infP x
  have hm : mag 9218868437227405311 = 9218868437227405311 := by decide
  unfold infP
  rcases Nat.lt_or_ge 9218868437227405312 (mag x) with h | h
  · rw [order_nan_l h, decide_eq_false (by unfold mag at h; omega)]
    rfl
  · rw [order_key h (by rw [hm]; decide)]
    have hk : keyZ 9218868437227405311 = 9218868437227405311 := by decide
    rw [hk]
    by_cases he : x = 9218868437227405312
    · rw [decide_eq_true he, he]
      decide
    · rw [decide_eq_false he]
      have hle : keyZ x ≤ 9218868437227405311 := by
        unfold keyZ
        unfold mag at h ⊢
        split
        · omega
        · rename_i hs
          rw [beq_iff_eq] at hs
          omega
      rw [beq_eq_false_iff_ne]
      intro hc
      have := Int.compare_eq_gt.1 (Option.some.inj hc)
      omega
set_option maxRecDepth 100000 in
theorem isInfP_any (x : Nat) (w : World) (hb : x < 18446744073709551616) : Calls Tryz.prog 39 #[.float .f64 x, .int .i64 1] w fun e w' => e = .returned (.bool (infP x)) ∧ w = w' := by
  have h := inf_gt x hb
  go_enter Tryz.func39, Tryz.ntmps39
  go_wp2
  go_ret
  exact ⟨rfl, rfl⟩
theorem neg_infM (x : Nat) (hb : x < 18446744073709551616) : (FloatKind.f64.format.order (Op.negFloat .f64 x) 9218868437227405311 == some .gt) = infM x := by
  rcases Nat.lt_or_ge x 9223372036854775808 with h | h
  · rw [neg_pos h, inf_gt _ (by omega)]
    unfold infP infM
    rw [decide_eq_false (by omega), decide_eq_false (by omega)]
  · obtain ⟨t, rfl⟩ : ∃ t, x = 9223372036854775808 + t := ⟨x - 9223372036854775808, by omega⟩
    rw [neg_neg' (by omega), inf_gt _ (by omega)]
    unfold infP infM
    by_cases ht : t = 9218868437227405312
    · rw [decide_eq_true ht, decide_eq_true (by omega)]
    · rw [decide_eq_false ht, decide_eq_false (by omega)]
set_option maxRecDepth 100000 in
theorem isInfM_any (x : Nat) (w : World) (hb : x < 18446744073709551616) : Calls Tryz.prog 39 #[.float .f64 x, .int .i64 (-1)] w fun e w' => e = .returned (.bool (infM x)) ∧ w = w' := by
  have h := neg_infM x hb
  have hn := fun W => run_neg Tryz.prog x W
  go_enter Tryz.func39, Tryz.ntmps39
  go_wp2
  go_ret
  exact ⟨rfl, rfl⟩
/-- What a number is called that has no digits. -/
def oddL (x : Nat) : Option (List UInt8) := if nanB x = true then some [43, 110, 97, 110] else if infP x = true then some [43, 105, 110, 102] else if infM x = true then some [45, 105, 110, 102] else none
set_option maxRecDepth 100000 in
theorem boundless_any (x : Nat) (w : World) (hb : x < 18446744073709551616) : Calls Tryz.prog 55 #[.float .f64 x] w fun e w' => e = .returned (.tuple #[.string ⟨((oddL x).getD []).toArray⟩, .bool (oddL x).isSome]) ∧ w = w' := by
  have c1 := fun W => isNaN_any x W
  have c2 := fun W => isInfP_any x W hb
  have c3 := fun W => isInfM_any x W hb
  unfold oddL
  generalize nanB x = n at *
  generalize infP x = i at *
  generalize infM x = j at *
  have C1 := Lib.hid c1
  have C2 := Lib.hid c2
  have C3 := Lib.hid c3
  clear c1 c2 c3
  cases n with
  | true =>
    go_enter Tryz.func55, Tryz.ntmps55
    go_wp2_with fail
    refine (C1.out _).mono ?_
    rintro e w' ⟨rfl, rfl⟩
    go_wp2_with fail
    go_ret2
    exact ⟨rfl, rfl⟩
  | false =>
    cases i with
    | true =>
      go_enter Tryz.func55, Tryz.ntmps55
      go_wp2_with fail
      refine (C1.out _).mono ?_
      rintro e w' ⟨rfl, rfl⟩
      go_wp2_with fail
      refine (C2.out _).mono ?_
      rintro e w' ⟨rfl, rfl⟩
      go_wp2_with fail
      go_ret2
      exact ⟨rfl, rfl⟩
    | false =>
      cases j with
      | true =>
        go_enter Tryz.func55, Tryz.ntmps55
        go_wp2_with fail
        refine (C1.out _).mono ?_
        rintro e w' ⟨rfl, rfl⟩
        go_wp2_with fail
        refine (C2.out _).mono ?_
        rintro e w' ⟨rfl, rfl⟩
        go_wp2_with fail
        refine (C3.out _).mono ?_
        rintro e w' ⟨rfl, rfl⟩
        go_wp2_with fail
        go_ret2
        exact ⟨rfl, rfl⟩
      | false =>
        go_enter Tryz.func55, Tryz.ntmps55
        go_wp2_with fail
        refine (C1.out _).mono ?_
        rintro e w' ⟨rfl, rfl⟩
        go_wp2_with fail
        refine (C2.out _).mono ?_
        rintro e w' ⟨rfl, rfl⟩
        go_wp2_with fail
        refine (C3.out _).mono ?_
        rintro e w' ⟨rfl, rfl⟩
        go_wp2_with fail
        go_ret2
        exact ⟨rfl, rfl⟩
theorem odd_none {x : Nat} (h : mag x < 9218868437227405312) : oddL x = none := by
  unfold oddL
  rw [nan_no (by omega), if_neg (by decide)]
  have h1 : infP x = false := decide_eq_false (by rintro rfl; exact absurd h (by decide))
  have h2 : infM x = false := decide_eq_false (by rintro rfl; exact absurd h (by decide))
  rw [h1, h2]
  rfl
end Go.Proofs.YtmceakbjholjpaaGreatDoor

namespace Go.Proofs.YtmceakbjholjpaaGreatDoor
open Go.RowKit Go.Lib

/-- Capitals, if the verb writes them. -/
def capL (c : Nat) (l : List UInt8) : List UInt8 := if vCap.contains c.toUInt8 = true then Lib.toUpperA l else l
noncomputable def pointT (m p b a z : Bool) (wd pr : Int) (c x : Nat) : List UInt8 := laidL (signL p b c (sbB x)) [] (capL c (ptD (mag x) pr a c)) wd m z
theorem chk_bd {wd pr : Int} {c : Nat} (h : chkB wd pr c = true) : 0 ≤ wd ∧ wd ≤ 1024 ∧ -1 ≤ pr ∧ pr ≤ 190 := by
  unfold chkB at h
  simp only [Bool.and_eq_true, decide_eq_true_eq] at h
  exact ⟨h.1.1.1, h.1.1.2, h.1.2.1, h.1.2.2⟩
set_option maxRecDepth 100000 in
set_option maxHeartbeats 8000000 in
theorem number_point (m p b a z : Bool) (wd pr : Int) (c : Nat) (x : Nat) (w : World) (hb : x < 18446744073709551616) (h : mag x < 9218868437227405312) (hk : chkB wd pr c = true) (hv : vNum.contains c.toUInt8 = true) (hw : vWhole.contains c.toUInt8 = false) (hT : PowTab w) :
    Calls Tryz.prog 19 #[.agg #[.bool m, .bool p, .bool b, .bool a, .bool z, .int .i64 wd, .int .i64 pr, .int .u8 (c : Int)], .float .f64 x] w fun e w' => e = .returned (.tuple #[.string ⟨(pointT m p b a z wd pr c x).toArray⟩, .int .i64 0]) ∧ Below w.heap.size w w' := by
  obtain ⟨d0, d1, d2, d3⟩ := chk_bd hk
  have cK := fun W => check_any m p b a z wd pr c W
  rw [hk, if_pos rfl] at cK
  have cA := fun W => among_any ⟨#[100, 105, 111, 120, 88, 117, 101, 69, 102, 70, 103, 71]⟩ c W
  replace cA : ∀ w : World, Calls Tryz.prog 46 #[.string ⟨#[100, 105, 111, 120, 88, 117, 101, 69, 102, 70, 103, 71]⟩, .int .u8 (c : Int)] w fun e w' => e = .returned (.bool (vNum.contains c.toUInt8)) ∧ w = w' := cA
  rw [hv] at cA
  have cW := fun W => among_any ⟨#[100, 105, 111, 120, 88, 117]⟩ c W
  replace cW : ∀ w : World, Calls Tryz.prog 46 #[.string ⟨#[100, 105, 111, 120, 88, 117]⟩, .int .u8 (c : Int)] w fun e w' => e = .returned (.bool (vWhole.contains c.toUInt8)) ∧ w = w' := cW
  rw [hw] at cW
  have cO := fun W => boundless_any x W hb
  rw [odd_none h] at cO
  replace cO : ∀ w : World, Calls Tryz.prog 55 #[.float .f64 x] w fun e w' => e = .returned (.tuple #[.string ⟨#[]⟩, .bool false]) ∧ w = w' := cO
  have cP := fun W hW => pointed_any m p b a z wd pr c x W hb h d2 d3 hW
  obtain ⟨SG, hSG⟩ : ∃ SG : ByteArray, (⟨(signL p b c (sbB x)).toArray⟩ : ByteArray) = SG := ⟨_, rfl⟩
  obtain ⟨D, hD⟩ : ∃ D : ByteArray, (⟨(ptD (mag x) pr a c).toArray⟩ : ByteArray) = D := ⟨_, rfl⟩
  have hSl : SG.data.toList = signL p b c (sbB x) := by rw [← hSG]
  have hDl : D.data.toList = ptD (mag x) pr a c := by rw [← hD]
  have s1 : SG.size ≤ 10 := by rw [← ba_len, hSl]; exact Nat.le_trans (sgn_len _ _ _ _) (by omega)
  have s3 : D.size ≤ 20000 := by rw [← ba_len, hDl]; exact Nat.le_trans (len_ptD w h d2 d3 a c) (by omega)
  have hAs : AscL D.data.toList := by rw [hDl]; exact asc_ptD w h d2 d3 a c
  rw [hSG, hD] at cP
  obtain ⟨X, hX⟩ : ∃ X : ByteArray, (⟨(pointT m p b a z wd pr c x).toArray⟩ : ByteArray) = X := ⟨_, rfl⟩
  have cQ := fun W => padded_core m p b a z wd pr c z SG ⟨#[]⟩ D ⟨#[]⟩ ⟨(capL c (ptD (mag x) pr a c)).toArray⟩ X W (by omega) (by omega) s1 (by decide) s3 asc_nil hAs (by
    unfold capL
    split
    · exact ⟨rfl, by rw [hDl]⟩
    · exact ⟨rfl, hD⟩) (by rw [← hX, hSl]; rfl)
  unfold PadEnd at cQ
  rw [hX]
  have CK := Lib.hid cK
  have CA := Lib.hid cA
  have CW := Lib.hid cW
  have CO := Lib.hid cO
  have CP := Lib.hid cP
  have CQ := Lib.hid cQ
  have HT := Lib.hid (Lib.tabBelow_of_tabIs hT)
  have FP := Lib.hid (Five.new w #[.bool m, .bool p, .bool b, .bool a, .bool z, .int .i64 wd, .int .i64 pr, .int .u8 (c : Int)] 24)
  have HB0 := Lib.hid ((Below.refl w.heap.size w).alloc (Nat.le_refl _) (.cells #[.bool m, .bool p, .bool b, .bool a, .bool z, .int .i64 wd, .int .i64 pr, .int .u8 (c : Int)] 24))
  obtain ⟨W1, hW1⟩ : ∃ W1, w.alloc (.cells #[.bool m, .bool p, .bool b, .bool a, .bool z, .int .i64 wd, .int .i64 pr, .int .u8 (c : Int)] 24) = W1 := ⟨_, rfl⟩
  rw [hW1] at FP HB0
  have HW1 := Lib.hid hW1
  clear cK cA cW cO cP cQ hT hW1 hX hSG hD hSl hDl s1 s3 hAs hk hv hw h hb d0 d1 d2 d3
  have hle : w.heap.size ≤ W1.heap.size := HB0.out.size
  obtain ⟨B, hB⟩ : ∃ B, w.heap.size = B := ⟨_, rfl⟩
  rw [hB] at FP HB0 HT hle ⊢
  obtain ⟨p0, p1, p2, p3, p4, p5, p6, p7⟩ := spec_cells FP.out
  have HB := Lib.hid hB
  clear hB
  go_enter Tryz.func19, Tryz.ntmps19
  go_wp2_with fail
  rw [HW1.out, HB.out]
  refine (CK.out _).mono ?_
  rintro e W2 ⟨rfl, h2⟩
  clear p0 p1 p2 p3 p4 p5 p6 p7
  obtain ⟨p0, p1, p2, p3, p4, p5, p6, p7⟩ := spec_cells (FP.out.below h2)
  have FP2 := Lib.hid (FP.out.below h2)
  have HB2 := Lib.hid (HB0.out.trans (h2.mono hle))
  have hle2 : B ≤ W2.heap.size := Nat.le_trans hle h2.size
  clear h2
  go_wp2_with fail
  refine (CA.out _).mono ?_
  rintro e w' ⟨rfl, rfl⟩
  go_wp2_with fail
  refine (CO.out _).mono ?_
  rintro e w' ⟨rfl, rfl⟩
  go_wp2_with fail
  refine (CW.out _).mono ?_
  rintro e w' ⟨rfl, rfl⟩
  go_wp2_with fail
  have HCW := Lib.hid (fun (W : World) (h : Below W2.heap.size W2 W) => spec_cells (FP2.out.below h))
  have HTW := Lib.hid (fun (W : World) (h : Below W2.heap.size W2 W) => HT.out W (HB2.out.trans (h.mono hle2)))
  have hR := Below.refl W2.heap.size W2
  go_region_held3 (fun w' => w'.cell? ⟨B, 0, none⟩ = some (.bool m) ∧ w'.cell? ⟨B, 1, none⟩ = some (.bool p) ∧ w'.cell? ⟨B, 2, none⟩ = some (.bool b) ∧ w'.cell? ⟨B, 3, none⟩ = some (.bool a) ∧ w'.cell? ⟨B, 4, none⟩ = some (.bool z) ∧ w'.cell? ⟨B, 5, none⟩ = some (.int .i64 wd) ∧ w'.cell? ⟨B, 6, none⟩ = some (.int .i64 pr) ∧ w'.cell? ⟨B, 7, none⟩ = some (.int .u8 (c : Int)))
      (first | (with_reducible exact S2) | (with_reducible exact S1) | go_keep)
      (first
      | (go_at_call 59; (with_reducible refine (CP.out _ (HTW.out _ (by first | exact hR | exact below_drewN hR _ | exact hR.drew))).mono ?_); rintro e W3 ⟨rfl, h3⟩; have b3 : Below W2.heap.size W2 W3 := ⟨h3.os, h3.tape, h3.output, h3.size, h3.block⟩; have S1 := HCW.out _ b3; clear h3)
      | (go_at_call 58; (with_reducible refine (CQ.out _).mono ?_); rintro e W4 ⟨rfl, h4⟩; have b4 : Below W2.heap.size W2 W4 := b3.trans ((⟨h4.os, h4.tape, h4.output, h4.size, h4.block⟩ : Below W3.heap.size W3 W4).mono b3.size); have S2 := HCW.out _ b4; clear h4))
  all_goals
    have hBf := HB2.out.trans (b4.mono hle2)
    go_wp2_with fail
    go_ret2
    exact ⟨rfl, by first | exact hBf | exact ⟨hBf.os, hBf.tape, hBf.output, hBf.size, hBf.block⟩⟩
end Go.Proofs.YtmceakbjholjpaaGreatDoor

namespace Go.Proofs.YtmceakbjholjpaaGreatDoor
open Go.RowKit Go.Lib

set_option maxRecDepth 100000 in
set_option maxHeartbeats 2000000 in
/-- strings.Cut at a byte that stands first, or of an empty text. -/
theorem cut_first (s : ByteArray) (x : UInt8) (w : World) (hs : s.size ≤ 4611686018427387904) (h : s.data.toList = [] ∨ ∃ t, s.data.toList = x :: t) :
    Calls Tryz.prog 207 #[.string s, .string ⟨#[x]⟩] w fun e w' => (∃ T F, e = .returned (.tuple #[.string ⟨#[]⟩, .string T, .bool F])) ∧ Below w.heap.size w w' := by
  have cI := fun W => Tryz.stringslite_Index_one s x W
  rcases h with h | ⟨t, h⟩
  · have hx : Lib.indexByte s.data.toList x = -1 := by rw [h]; rfl
    rw [hx] at cI
    have hs0 : s = ⟨#[]⟩ := by rw [← Lib.mk_data s, h]
    have CI := Lib.hid cI
    clear cI hx h
    subst hs0
    go_enter Tryz.func207, Tryz.ntmps207
    go_wp2_with fail
    refine (CI.out _).mono ?_
    rintro e w' ⟨rfl, rfl⟩
    go_wp2_with fail
    go_ret3
    exact ⟨⟨_, _, rfl⟩, Below.refl _ _⟩
  · have hx : Lib.indexByte s.data.toList x = 0 := by
      rw [h]
      show (if (x == x) = true then (0 : Int) else _) = 0
      rw [beq_self_eq_true, if_pos rfl]
    rw [hx] at cI
    have h1 : 1 ≤ s.size := by rw [← ba_len, h]; simp
    have CI := Lib.hid cI
    clear cI hx h
    go_enter Tryz.func207, Tryz.ntmps207
    go_wp2_with fail
    refine (CI.out _).mono ?_
    rintro e w' ⟨rfl, rfl⟩
    go_wp2_with fail
    have h1i : (1 : Int) ≤ (s.size : Int) := by omega
    have hw1 : IntKind.i64.wrap (0 + 1) = 1 := by decide
    go_quiet (fail)
    go_wp2_with fail
    go_ret3
    refine ⟨⟨s.extract 1 s.size, true, ?_⟩, below_drewN (Below.refl _ _) _⟩
    simp
    rfl
theorem cutS_first (s : ByteArray) (x : UInt8) (w : World) (hs : s.size ≤ 4611686018427387904) (h : s.data.toList = [] ∨ ∃ t, s.data.toList = x :: t) :
    Calls Tryz.prog 162 #[.string s, .string ⟨#[x]⟩] w fun e w' => (∃ T F, e = .returned (.tuple #[.string ⟨#[]⟩, .string T, .bool F])) ∧ Below w.heap.size w w' := by
  have C := Lib.hid (cut_first s x w hs h)
  clear h
  go_enter Tryz.func162, Tryz.ntmps162
  go_wp2_with fail
  refine C.out.mono ?_
  rintro e w' ⟨⟨T, F, rfl⟩, hB⟩
  go_wp2_with fail
  go_ret3
  exact ⟨⟨_, _, rfl⟩, hB⟩
set_option maxRecDepth 100000 in
set_option maxHeartbeats 4000000 in
/-- Where a part begins, or at the end, nothing stands ahead. -/
theorem plain_none (S : ByteArray) (k g : Nat) (w : World) (hk : k ≤ S.size) (hS : S.size ≤ 4611686018427387904) (hR : Rdr w g S k) (h : k = S.size ∨ atB S k = 37) :
    Calls Tryz.prog 118 #[.pointer (some ⟨g, 0, none⟩)] w fun e w' => e = .returned (.string ⟨#[]⟩) ∧ Rdr w' g S k ∧ Out [g] w w' := by
  have hl : (S.extract k S.size).data.toList = S.data.toList.drop k := by
    rw [ByteArray.data_extract, Array.toList_extract]
    simp only [List.extract]
    rw [List.take_of_length_le]
    rw [List.length_drop, ba_len]
    omega
  have hx : (S.extract k S.size).data.toList = [] ∨ ∃ t, (S.extract k S.size).data.toList = 37 :: t := by
    rw [hl]
    rcases h with rfl | h
    · left
      rw [List.drop_eq_nil_iff, ba_len]
      omega
    · right
      have hlt := atB_size (S := S) (k := k) (by omega)
      rw [atB_in hlt] at h
      refine ⟨S.data.toList.drop (k + 1), ?_⟩
      have h3 := List.drop_eq_getElem_cons (l := S.data.toList) (i := k) (by rw [ba_len]; exact hlt)
      rw [h3]
      congr 1
      have h4 : S.data.toList[k]'(by rw [ba_len]; exact hlt) = S[k]'hlt := by
        have := ba_byte S rfl k hlt
        rw [List.getElem?_eq_getElem (by rw [ba_len]; exact hlt)] at this
        exact Option.some.inj this
      rw [h4]
      exact UInt8.toNat_inj.1 h
  have C := Lib.hid (fun (W : World) => cutS_first (S.extract k S.size) 37 W (by rw [ByteArray.size_extract]; omega) hx)
  have H := Lib.hid hR
  have c0 := hR.cell 0
  have c1 := hR.cell 1
  have f1 := hR.fro 1
  have hki : (k : Int) ≤ (S.size : Int) := by omega
  have hki0 : (0 : Int) ≤ (k : Int) := by omega
  have hw0 : wrap64 ((k : Int) + 0) = (k : Int) := by unfold wrap64; omega
  clear hx hl h hR
  go_enter Tryz.func118, Tryz.ntmps118
  go_wp2_with fail
  have HCW := Lib.hid (fun (W : World) (h : Below w.heap.size w W) => (show W.cell? ⟨g, 0, none⟩ = some (.string S) ∧ W.cell? ⟨g, 1, none⟩ = some (.int .i64 (k : Int)) from ⟨(H.out.below h).cell 0, (H.out.below h).cell 1⟩))
  clear c0 c1 f1
  have c0 : w.cell? ⟨g, 0, none⟩ = some (.string S) := H.out.cell 0
  have c1 : w.cell? ⟨g, 1, none⟩ = some (.int .i64 (k : Int)) := H.out.cell 1
  go_region_held3 (fun w' => w'.cell? ⟨g, 0, none⟩ = some (.string S) ∧ w'.cell? ⟨g, 1, none⟩ = some (.int .i64 (k : Int)))
    (first | (with_reducible exact S1) | go_keep)
    (first
    | (go_at_call 162; (with_reducible refine (C.out _).mono ?_); rintro e W3 ⟨⟨T, F, rfl⟩, h3⟩; have b3 : Below w.heap.size w W3 := ⟨h3.os, h3.tape, h3.output, h3.size, h3.block⟩; have S1 := HCW.out _ b3; clear h3))
  all_goals
    have f3 := (H.out.below b3).fro 1
    obtain ⟨d0, d1⟩ := S1
    have HB3 := Lib.hid b3
    clear b3
    go_wp2_with fail
    go_ret
    refine ⟨rfl, ?_, ?_⟩
    · first | exact (show Rdr _ g S k from H.out.below HB3.out).step k | exact (show Rdr _ g S k from (H.out.below HB3.out)) | exact ⟨((show Rdr _ g S k from H.out.below HB3.out).step k).row⟩
    · first | exact (Out.of_below HB3.out).set (p := ⟨g, 1, none⟩) (by simp) _ | exact Out.of_below HB3.out | exact ((Out.of_below HB3.out).drew _).set (p := ⟨g, 1, none⟩) (by simp) _
theorem isB_out {T e : TypeId} {B b g : Nat} {bs : List Value} {w w' : World} (h : Lib.IsBuilder T e B b bs w) (o : Out [g] w w') (hg : g < B) : Lib.IsBuilder T e B b bs w' := by
  have key : ∀ {p : Value}, Lib.BuilderAt T e B b p bs w → Lib.BuilderAt T e B b p bs w' := fun {p} ⟨hB, v, hb, hown, hne⟩ => by
    have same : ∀ {q : Nat} {ob : Obj}, B ≤ q → w.heap[q]? = some ob → w'.heap[q]? = some ob := fun {q ob} hq hx =>
      (o.block q (by simp; omega) (Array.getElem?_eq_some_iff.1 hx).1).trans hx
    refine ⟨hB, v, same hB hb, ⟨hown.1, ?_⟩, hne⟩
    rcases hown.2 with h1 | ⟨g2, cap, cur, hv, hbg, hg2, r⟩
    · exact Or.inl h1
    · exact Or.inr ⟨g2, cap, cur, hv, hbg, same hbg hg2, r⟩
  rcases h with h | h
  · exact Or.inl (key h)
  · exact Or.inr (key h)
theorem write_any (B b : Nat) (bs : List Value) (s : ByteArray) (w : World) (h : Lib.IsBuilder 164 5 B b bs w) (hlen : bs.length + s.size ≤ 140737488355328) (hBw : B ≤ w.heap.size) :
    Calls Tryz.prog 117 #[.pointer (some ⟨b, 0, none⟩), .string s] w fun e w' => e = .returned (.tuple #[.int .i64 s.size, .nilIface]) ∧ (Lib.IsBuilder 164 5 B b (bs ++ Lib.strCells s) w' ∧ Below B w w') :=
  (Any.Builder_WriteString (ρ := Tryz.lays158_ren) { Tryz.lays158 with } Tryz.Builder_Extra_158 B b bs s w h hlen hBw).mono fun _ _ ⟨h1, h2, h3⟩ => ⟨h1, Or.inr h2, h3⟩
end Go.Proofs.YtmceakbjholjpaaGreatDoor

namespace Go.Proofs.YtmceakbjholjpaaGreatDoor
open Go.RowKit Go.Lib

theorem Out.then_below {G : List Nat} {a b c : World} {B : Nat} (h : Out G a b) (k : Below B b c) (hB : a.heap.size ≤ B) : Out G a c :=
  ⟨k.os.trans h.os, k.tape.trans h.tape, k.output.trans h.output, Nat.le_trans h.size k.size, fun i hi hl => (k.block i (by omega)).trans (h.block i hi hl)⟩
theorem Five.belowB {W W' : World} {g B : Nat} {cs : Array Value} {t : TypeId} (h : Five W g cs t) (hb : Below B W W') (hg : g < B) : Five W' g cs t := ⟨(hb.block g hg).trans h.row⟩
theorem out_loop {G : List Nat} {a b c : World} (h : Out G a b) (k : Below b.heap.size b c) : Out G a c := h.then (Out.of_below (G := []) k) (fun x hx => by cases hx)
set_option maxRecDepth 100000 in
set_option maxHeartbeats 16000000 in
theorem filled_one (P T : ByteArray) (g x _nx : Nat) (m p b a z : Bool) (wd pr : Int) (c : Nat) (w : World) (hP : P.size ≤ 1000000) (hP0 : 0 < P.size) (hp : partF P 0 = some ⟨m, p, b, a, z, wd, pr, c, false, false, P.size⟩) (hc : c ≠ 37) (hR : Rdr w g P 0)
    (hN : ∀ W, PowTab W → Calls Tryz.prog 19 #[.agg #[.bool m, .bool p, .bool b, .bool a, .bool z, .int .i64 wd, .int .i64 pr, .int .u8 (c : Int)], .float .f64 x] W fun e w' => e = .returned (.tuple #[.string T, .int .i64 0]) ∧ Below W.heap.size W w')
    (hTs : T.size ≤ 1000000) (hT : ∀ W, Out [g] w W → PowTab W) :
    Calls Tryz.prog 77 #[.pointer (some ⟨g, 0, none⟩), .float .f64 x] w fun e w' => e = .returned (.tuple #[.string T, .bool true]) ∧ Out [g] w w' := by
  have h37 : atB P 0 = 37 := by
    unfold partF at hp
    split at hp
    · assumption
    · cases hp
  have CPl := Lib.hid (fun (k : Nat) (W : World) (hk : k ≤ P.size) (r : Rdr W g P k) (h : k = P.size ∨ atB P k = 37) => plain_none P k g W hk (by omega) r h)
  have cPa := fun (W : World) (r : Rdr W g P 0) => part_any P 0 g W (by omega) (by omega) r
  unfold PartEnd at cPa
  rw [hp] at cPa
  have CPa := Lib.hid cPa
  have CN := Lib.hid hN
  have HT := Lib.hid hT
  have HR := Lib.hid hR
  have hgl := hR.lt
  have HGL := Lib.hid hgl
  have fb := Lib.fresh_isBuilder 164 5 w
  have hO := (Out.refl [g] w).alloc (.cells #[.pointer none, .slice none 0 0] 164)
  have r1 := hR.alloc (.cells #[.pointer none, .slice none 0 0] 164)
  obtain ⟨B, hB⟩ : ∃ B, w.heap.size = B := ⟨_, rfl⟩
  obtain ⟨W1, hW1⟩ : ∃ W1, w.alloc (.cells #[.pointer none, .slice none 0 0] 164) = W1 := ⟨_, rfl⟩
  rw [hW1] at fb hO r1
  rw [hB] at fb HGL
  have HB := Lib.hid hB
  have HW1 := Lib.hid hW1
  have HFB := Lib.hid fb
  have HO := Lib.hid hO
  have HR1 := Lib.hid (show Rdr W1 g P 0 from r1)
  have HH := Lib.hid h37
  have HC := Lib.hid hc
  clear hp cPa hN hT hR fb hO r1 hB hW1 h37 hc hgl
  go_enter Tryz.func77, Tryz.ntmps77
  go_wp2_with fail
  rw [HW1.out, HB.out]
  have hwB : w.heap.size ≤ B := Nat.le_of_eq HB.out
  refine (CPl.out 0 _ (by omega) HR1.out (Or.inr HH.out)).mono ?_
  rintro e W2 ⟨rfl, r2, o2⟩
  have b2 := isB_out HFB.out o2 HGL.out
  have HO2 := Lib.hid (HO.out.trans o2)
  have HR2 := Lib.hid r2
  have hl2 : B ≤ W2.heap.size := by have := HO2.out.size; have := HB.out; omega
  have CW := Lib.hid (write_any B B [] ⟨#[]⟩ W2 b2 (by decide) hl2)
  clear r2 o2 b2 HFB HO HR1
  go_wp2_with fail
  refine CW.out.mono ?_
  rintro e W3 ⟨rfl, b3, h3⟩
  have HB3 := Lib.hid (show Lib.IsBuilder 164 5 B B [] W3 from b3)
  have HR3 := Lib.hid (show Rdr W3 g P 0 from HR2.out.belowB h3 HGL.out)
  have HO3 := Lib.hid (HO2.out.then_below h3 hwB)
  clear b3 h3 CW HR2 HO2 hl2
  go_wp2_with fail
  go_loopw [7] (fun wv wr => (wv = .bool false ∧ Rdr wr g P 0 ∧ Lib.IsBuilder 164 5 B B [] wr ∧ Out [g] w wr) ∨ (wv = .bool true ∧ Rdr wr g P P.size ∧ Lib.IsBuilder 164 5 B B (Lib.strCells T) wr ∧ Out [g] w wr)) (fun wv _ => match wv with | .bool true => 0 | _ => 1)
  case atStart => exact Or.inl ⟨rfl, HR3.out, HB3.out, HO3.out⟩
  case round =>
    rcases hrel with ⟨rfl, rr, bb, oo⟩ | ⟨rfl, rr, bb, oo⟩
    · have c0 := rr.cell 0
      have c1 := rr.cell 1
      have HRr := Lib.hid rr
      have HBb := Lib.hid bb
      have HOo := Lib.hid oo
      have hps : (0 : Int) < (P.size : Int) := by omega
      clear rr bb oo HR3 HB3 HO3
      go_wp2_with fail
      go_quiet (fail)
      clear c0 c1
      have HRq := Lib.hid (show Rdr (wr.drewN nq) g P 0 from HRr.out.drew nq)
      have HOq := Lib.hid (HOo.out.drew nq)
      have HBq := Lib.hid (isB_out HBb.out ((Out.refl [g] wr).drew nq) HGL.out)
      obtain ⟨Wq, hWq⟩ : ∃ Wq, wr.drewN nq = Wq := ⟨_, rfl⟩
      rw [hWq] at HRq HOq HBq ⊢
      clear hWq HRr HBb HOo
      go_wp2_with fail
      refine (CPa.out _ HRq.out).mono ?_
      rintro e W4 ⟨rfl, r4, o4⟩
      have r4 := r4 _ rfl
      rw [show pcV ((some (⟨m, p, b, a, z, wd, pr, c, false, false, P.size⟩ : Pc)).getD pc0) = .agg #[.bool m, .bool p, .bool b, .bool a, .bool z, .int .i64 wd, .int .i64 pr, .int .u8 (c : Int), .bool false, .bool false, .int .i64 (P.size : Int)] from rfl]
      have HR5 := Lib.hid (show Rdr (W4.alloc (.cells #[.bool m, .bool p, .bool b, .bool a, .bool z, .int .i64 wd, .int .i64 pr, .int .u8 (c : Int), .bool false, .bool false, .int .i64 (P.size : Int)] 26)) g P P.size from Five.alloc r4 _)
      have HO5 := Lib.hid ((HOq.out.trans o4).alloc (.cells #[.bool m, .bool p, .bool b, .bool a, .bool z, .int .i64 wd, .int .i64 pr, .int .u8 (c : Int), .bool false, .bool false, .int .i64 (P.size : Int)] 26))
      have HB5 := Lib.hid (isB_out (isB_out HBq.out o4 HGL.out) ((Out.refl [g] W4).alloc (.cells #[.bool m, .bool p, .bool b, .bool a, .bool z, .int .i64 wd, .int .i64 pr, .int .u8 (c : Int), .bool false, .bool false, .int .i64 (P.size : Int)] 26)) HGL.out)
      obtain ⟨⟨e0, e1, e2, e3, e4, e5, e6, e7, e8, e9, e10⟩, -⟩ := (Five.new W4 #[.bool m, .bool p, .bool b, .bool a, .bool z, .int .i64 wd, .int .i64 pr, .int .u8 (c : Int), .bool false, .bool false, .int .i64 (P.size : Int)] 26).eleven
      have hcv : ((c : Int) == 37) = false := by rw [beq_eq_false_iff_ne]; have := HC.out; omega
      clear r4 o4 HRq HOq HBq
      go_wp2_with fail
      clear e0 e1 e2 e3 e4 e5 e6 e7 e8 e9 e10
      obtain ⟨W5, hW5⟩ : ∃ W5, W4.alloc (.cells #[.bool m, .bool p, .bool b, .bool a, .bool z, .int .i64 wd, .int .i64 pr, .int .u8 (c : Int), .bool false, .bool false, .int .i64 (P.size : Int)] 26) = W5 := ⟨_, rfl⟩
      rw [hW5] at HR5 HO5 HB5 ⊢
      clear hW5
      refine (CN.out _ (HT.out _ HO5.out)).mono ?_
      rintro e W6 ⟨rfl, h6⟩
      have HR6 := Lib.hid (show Rdr W6 g P P.size from Five.below HR5.out h6)
      have HO6 := Lib.hid (out_loop HO5.out h6)
      have b6 := isB_out HB5.out (Out.of_below (G := [g]) h6) HGL.out
      have hl6 : B ≤ W6.heap.size := by have := HO6.out.size; have := HB.out; omega
      have CW6 := Lib.hid (write_any B B [] T W6 b6 (by simp; omega) hl6)
      clear h6 b6 hl6 HR5 HO5 HB5
      go_wp2_with fail
      refine CW6.out.mono ?_
      rintro e W7 ⟨rfl, b7, h7⟩
      have HR7 := Lib.hid (show Rdr W7 g P P.size from HR6.out.belowB h7 HGL.out)
      have HO7 := Lib.hid (HO6.out.then_below h7 (Nat.le_of_eq HB.out))
      have HB7 := Lib.hid (show Lib.IsBuilder 164 5 B B (Lib.strCells T) W7 from b7)
      clear b7 h7 HR6 HO6 CW6
      go_wp2_with fail
      refine (CPl.out P.size _ (Nat.le_refl _) HR7.out (Or.inl rfl)).mono ?_
      rintro e W8 ⟨rfl, r8, o8⟩
      have HR8 := Lib.hid r8
      have HO8 := Lib.hid (HO7.out.trans o8)
      have b8 := isB_out HB7.out o8 HGL.out
      have hl8 : B ≤ W8.heap.size := by have := HO8.out.size; have := HB.out; omega
      have CW8 := Lib.hid (write_any B B (Lib.strCells T) ⟨#[]⟩ W8 b8 (by rw [Lib.strCells_length]; show T.size + 0 ≤ _; omega) hl8)
      clear r8 o8 b8 hl8 HR7 HO7 HB7
      go_wp2_with fail
      refine CW8.out.mono ?_
      rintro e W9 ⟨rfl, b9, h9⟩
      have HR9 := Lib.hid (show Rdr W9 g P P.size from HR8.out.belowB h9 HGL.out)
      have HO9 := Lib.hid (HO8.out.then_below h9 (Nat.le_of_eq HB.out))
      have HB9 := Lib.hid (show Lib.IsBuilder 164 5 B B (Lib.strCells T) W9 from by
        rw [show Lib.strCells (⟨#[]⟩ : ByteArray) = [] from rfl, List.append_nil] at b9
        exact b9)
      clear b9 h9 HR8 HO8 CW8
      go_wp2_with fail
      go_roundw
      case rel => exact Or.inr ⟨rfl, HR9.out, HB9.out, HO9.out⟩
      case measure => decide
    · have c0 := rr.cell 0
      have c1 := rr.cell 1
      have hnl : ¬ (P.size : Int) < (P.size : Int) := by omega
      have HBb := Lib.hid bb
      have HOo := Lib.hid oo
      clear rr bb oo HR3 HB3 HO3
      go_wp2_with fail
      go_quiet (fail)
      clear c0 c1
      have HOq := Lib.hid (HOo.out.drew nq)
      have bq := isB_out HBb.out ((Out.refl [g] wr).drew nq) HGL.out
      obtain ⟨Wq, hWq⟩ : ∃ Wq, wr.drewN nq = Wq := ⟨_, rfl⟩
      rw [hWq] at HOq bq ⊢
      have hlq : B ≤ Wq.heap.size := by have := HOq.out.size; have := HB.out; omega
      have cS := Tryz.Builder_String_any B B T.data.toList Wq bq hlq
      have hTT : (⟨T.data.toList.toArray⟩ : ByteArray) = T := by rw [← Lib.mk_data T]
      rw [hTT] at cS
      have CS := Lib.hid cS
      clear hWq HBb HOo bq hlq cS hTT
      go_wp2_with fail
      refine CS.out.mono ?_
      rintro e W9 ⟨rfl, h9⟩
      have HO9 := Lib.hid (HOq.out.then_below h9 (Nat.le_of_eq HB.out))
      clear h9
      go_wp2_with fail
      go_ret2
      exact ⟨rfl, HO9.out⟩
end Go.Proofs.YtmceakbjholjpaaGreatDoor
