/- Several texts in one (Contracts of layer 5: a part of a format (part, Parse); Contracts of layer 5: part and Parse; what stands ahead of a part (plain) where nothing does; Contracts of layer 5: a pattern of one part (plain, filled); Contracts of layer 5: a pattern of one part (filled, Conv); Contracts of layer 5: a number as a string, by a pattern of one part (Conv); Contracts of layer 4: what its laws share: whole numbers read, what is left of whole numbers, the fixed examples; Contracts of layer 6: values made, and what they count as; Contracts of layer 1: the bytes of a code, in the program and in the definition; Plain arithmetic of layer 1: the character at a place of a string; Contracts of layer 1: the character at a place of a string, in the program (Next) and in the definition (size, Next); Contracts of layer 1: Next, in the program and in the definition; Plain arithmetic of layer 1: the places at which the characters of a string begin; Contracts of layer 1: All, the iterator over a string's characters; Contracts of layer 1: Len, recase, Lower, Upper; Contracts of layer 1: recase; Contracts of layer 1: Starts, Len, Place, Sub of the definition). -/
import Derived.Test.YtbbbdcohkfijoaaGreatDoorRows
import Derived.WalkKit
import Derived.WalkSpells
import Derived.WalkLawsBesides
import Derived.Lib.Hide
import Derived.Test.YtbbbdcohkfijoaaGreatDoorShelf
import Derived.Lib.DecodeN
import Derived.Shelf.Unicode.DecodeSlow
import Derived.Lib.RuneCountTail
import Derived.Lib.RuneCount
import Derived.RangeFuncNested
import Derived.RangeFuncBound
import Derived.RangeFuncCalls
import Derived.RangeFuncLeaves
import Derived.Shelf.Abstract
import Derived.Shelf.RegionOpen
import Derived.OwnWalkIn
import Derived.TacticsInMore
import Derived.LoopNIn
import Derived.LoopIn
import Derived.Lib.LazyBuf
import Derived.Deep.Upon
import Derived.WalkSmall
import Derived.BigQuiet
import Derived.Deep.QuietTactic
import Derived.Test.YtbbbdcohkfijoaaGreatDoorQfo4
import Derived.Test.YtbbbdcohkfijoaaGreatDoorQfo5
import Derived.Test.YtbbbdcohkfijoaaGreatDoorQfo6
namespace Go.Proofs.YtbbbdcohkfijoaaGreatDoor
open Go.RowKit Go.Lib

structure Pc where
  m : Bool
  p : Bool
  b : Bool
  a : Bool
  z : Bool
  wd : Int
  pr : Int
  c : Nat
  sw : Bool
  sp : Bool
  nx : Nat
def pcV (x : Pc) : Value := .agg #[.bool x.m, .bool x.p, .bool x.b, .bool x.a, .bool x.z, .int .i64 x.wd, .int .i64 x.pr, .int .u8 (x.c : Int), .bool x.sw, .bool x.sp, .int .i64 (x.nx : Int)]
def pc0 : Pc := ⟨false, false, false, false, false, 0, 0, 0, false, false, 0⟩
/-- The precision behind a point. -/
def prAt (S : ByteArray) (k : Nat) : Int × Bool × Nat := if atB S k = 46 then amt S (k + 1) else (-1, false, k)
/-- The part that begins at a place. -/
def partF (S : ByteArray) (k : Nat) : Option Pc :=
  if atB S k = 37 then
    if vAll.contains (atB S (prAt S (amt S (flE S (k + 1))).2.2).2.2).toUInt8 = true then
      some ⟨hasN S (k + 1) 45 (flE S (k + 1) - (k + 1)), hasN S (k + 1) 43 (flE S (k + 1) - (k + 1)), hasN S (k + 1) 32 (flE S (k + 1) - (k + 1)), hasN S (k + 1) 35 (flE S (k + 1) - (k + 1)), hasN S (k + 1) 48 (flE S (k + 1) - (k + 1)),
        (amt S (flE S (k + 1))).1, (prAt S (amt S (flE S (k + 1))).2.2).1, atB S (prAt S (amt S (flE S (k + 1))).2.2).2.2, (amt S (flE S (k + 1))).2.1, (prAt S (amt S (flE S (k + 1))).2.2).2.1, (prAt S (amt S (flE S (k + 1))).2.2).2.2 + 1⟩
    else none
  else none
theorem flE_le {S : ByteArray} {k : Nat} (h : k ≤ S.size) : k ≤ flE S k ∧ flE S k ≤ S.size := by
  unfold flE
  have : ∀ f j, runP isFl S j f ≤ f := by
    intro f
    induction f with
    | zero => intro j; rw [runP]; omega
    | succ f ih =>
      intro j
      rw [runP]
      split
      · have := ih (j + 1); omega
      · omega
  have := this (S.size - k) k
  omega
theorem amt_le {S : ByteArray} {k : Nat} (h : k ≤ S.size) : k ≤ (amt S k).2.2 ∧ (amt S k).2.2 ≤ S.size := by
  unfold amt
  split
  · rename_i h2
    have := atB_size (S := S) (k := k) (by omega)
    exact ⟨by show k ≤ k + 1; omega, by show k + 1 ≤ S.size; omega⟩
  · have hl : ∀ f j, runP isDg S j f ≤ f := by
      intro f
      induction f with
      | zero => intro j; rw [runP]; omega
      | succ f ih =>
        intro j
        rw [runP]
        split
        · have := ih (j + 1); omega
        · omega
    have := hl (S.size - k) k
    refine ⟨by show k ≤ k + dgN S k; omega, ?_⟩
    show k + dgN S k ≤ S.size
    unfold dgN
    omega
theorem prAt_le {S : ByteArray} {k : Nat} (h : k ≤ S.size) : k ≤ (prAt S k).2.2 ∧ (prAt S k).2.2 ≤ S.size := by
  unfold prAt
  split
  · rename_i h2
    have h3 := atB_size (S := S) (k := k) (by omega)
    have := amt_le (S := S) (k := k + 1) (by omega)
    exact ⟨by omega, this.2⟩
  · exact ⟨Nat.le_refl _, h⟩
theorem Out.fresh {G : List Nat} {a w : World} (h : Out G a w) {p : Addr} (hp : a.heap.size ≤ p.block) (u : Value) : Out G a (w.setCell p u) := by
  have hb := (Below.refl 0 w).setCell (p := p) (Nat.zero_le _) u
  refine ⟨hb.os.trans h.os, hb.tape.trans h.tape, hb.output.trans h.output, Nat.le_trans h.size hb.size, fun k hk hl => ?_⟩
  rw [Below.heap_setCell w p u k (by omega)]
  exact h.block k hk hl
theorem Out.alloc {G : List Nat} {a w : World} (h : Out G a w) (o : Obj) : Out G a (w.alloc o) := by
  have hb := (Below.refl w.heap.size w).alloc (Nat.le_refl _) o
  exact ⟨hb.os.trans h.os, hb.tape.trans h.tape, hb.output.trans h.output, Nat.le_trans h.size hb.size, fun k hk hl => (hb.block k (Nat.lt_of_lt_of_le hl h.size)).trans (h.block k hk hl)⟩
/-- Only blocks of the list and new ones may have turned between the two. -/
theorem Out.then {G : List Nat} {a b c : World} (h : Out G a b) {G' : List Nat} (k : Out G' b c) (hs : ∀ x ∈ G', x ∈ G ∨ a.heap.size ≤ x) : Out G a c :=
  ⟨k.os.trans h.os, k.tape.trans h.tape, k.output.trans h.output, Nat.le_trans h.size k.size, fun i hi hl => (k.block i (fun hx => (hs i hx).elim hi (fun h2 => by omega)) (Nat.lt_of_lt_of_le hl h.size)).trans (h.block i hi hl)⟩
abbrev zc : Array Value := #[.bool false, .bool false, .bool false, .bool false, .bool false, .int .i64 0, .int .i64 0, .int .u8 0, .bool false, .bool false, .int .i64 0]
theorem Five.eleven {W : World} {B : Nat} {t : TypeId} {a0 a1 a2 a3 a4 a5 a6 a7 a8 a9 a10 : Value} (h : Five W B #[a0, a1, a2, a3, a4, a5, a6, a7, a8, a9, a10] t) :
    (W.cell? ⟨B, 0, none⟩ = some a0 ∧ W.cell? ⟨B, 1, none⟩ = some a1 ∧ W.cell? ⟨B, 2, none⟩ = some a2 ∧ W.cell? ⟨B, 3, none⟩ = some a3 ∧ W.cell? ⟨B, 4, none⟩ = some a4 ∧ W.cell? ⟨B, 5, none⟩ = some a5 ∧ W.cell? ⟨B, 6, none⟩ = some a6 ∧ W.cell? ⟨B, 7, none⟩ = some a7 ∧ W.cell? ⟨B, 8, none⟩ = some a8 ∧ W.cell? ⟨B, 9, none⟩ = some a9 ∧ W.cell? ⟨B, 10, none⟩ = some a10) ∧ (W.frozen? ⟨B, 0, none⟩ = false ∧ W.frozen? ⟨B, 1, none⟩ = false ∧ W.frozen? ⟨B, 2, none⟩ = false ∧ W.frozen? ⟨B, 3, none⟩ = false ∧ W.frozen? ⟨B, 4, none⟩ = false ∧ W.frozen? ⟨B, 5, none⟩ = false ∧ W.frozen? ⟨B, 6, none⟩ = false ∧ W.frozen? ⟨B, 7, none⟩ = false ∧ W.frozen? ⟨B, 8, none⟩ = false ∧ W.frozen? ⟨B, 9, none⟩ = false ∧ W.frozen? ⟨B, 10, none⟩ = false) :=
  ⟨⟨h.cell 0, h.cell 1, h.cell 2, h.cell 3, h.cell 4, h.cell 5, h.cell 6, h.cell 7, h.cell 8, h.cell 9, h.cell 10⟩, ⟨h.fro 0, h.fro 1, h.fro 2, h.fro 3, h.fro 4, h.fro 5, h.fro 6, h.fro 7, h.fro 8, h.fro 9, h.fro 10⟩⟩
theorem end11 {w W : World} {G : List Nat} {B : Nat} {t : TypeId} {a0 a1 a2 a3 a4 a5 a6 a7 a8 a9 a10 : Value} (v0 v1 v2 v3 v4 v5 v6 v7 v8 v9 v10 : Value) (F : Five W B #[a0, a1, a2, a3, a4, a5, a6, a7, a8, a9, a10] t) (h : Out G w W) (hB : w.heap.size ≤ B) :
    Five (((((((((((W.setCell ⟨B, 0, none⟩ v0).setCell ⟨B, 1, none⟩ v1).setCell ⟨B, 2, none⟩ v2).setCell ⟨B, 3, none⟩ v3).setCell ⟨B, 4, none⟩ v4).setCell ⟨B, 5, none⟩ v5).setCell ⟨B, 6, none⟩ v6).setCell ⟨B, 7, none⟩ v7).setCell ⟨B, 8, none⟩ v8).setCell ⟨B, 9, none⟩ v9).setCell ⟨B, 10, none⟩ v10) B #[v0, v1, v2, v3, v4, v5, v6, v7, v8, v9, v10] t ∧ Out G w (((((((((((W.setCell ⟨B, 0, none⟩ v0).setCell ⟨B, 1, none⟩ v1).setCell ⟨B, 2, none⟩ v2).setCell ⟨B, 3, none⟩ v3).setCell ⟨B, 4, none⟩ v4).setCell ⟨B, 5, none⟩ v5).setCell ⟨B, 6, none⟩ v6).setCell ⟨B, 7, none⟩ v7).setCell ⟨B, 8, none⟩ v8).setCell ⟨B, 9, none⟩ v9).setCell ⟨B, 10, none⟩ v10) := by
  refine ⟨?_, (((((((((((h.fresh (p := ⟨B, 0, none⟩) hB v0).fresh (p := ⟨B, 1, none⟩) hB v1).fresh (p := ⟨B, 2, none⟩) hB v2).fresh (p := ⟨B, 3, none⟩) hB v3).fresh (p := ⟨B, 4, none⟩) hB v4).fresh (p := ⟨B, 5, none⟩) hB v5).fresh (p := ⟨B, 6, none⟩) hB v6).fresh (p := ⟨B, 7, none⟩) hB v7).fresh (p := ⟨B, 8, none⟩) hB v8).fresh (p := ⟨B, 9, none⟩) hB v9).fresh (p := ⟨B, 10, none⟩) hB v10)⟩
  replace F : Five (W.setCell ⟨B, 0, none⟩ v0) B #[v0, a1, a2, a3, a4, a5, a6, a7, a8, a9, a10] t := F.set (j := 0) (u := v0)
  generalize (W.setCell ⟨B, 0, none⟩ v0) = W1 at *
  replace F : Five (W1.setCell ⟨B, 1, none⟩ v1) B #[v0, v1, a2, a3, a4, a5, a6, a7, a8, a9, a10] t := F.set (j := 1) (u := v1)
  generalize (W1.setCell ⟨B, 1, none⟩ v1) = W2 at *
  replace F : Five (W2.setCell ⟨B, 2, none⟩ v2) B #[v0, v1, v2, a3, a4, a5, a6, a7, a8, a9, a10] t := F.set (j := 2) (u := v2)
  generalize (W2.setCell ⟨B, 2, none⟩ v2) = W3 at *
  replace F : Five (W3.setCell ⟨B, 3, none⟩ v3) B #[v0, v1, v2, v3, a4, a5, a6, a7, a8, a9, a10] t := F.set (j := 3) (u := v3)
  generalize (W3.setCell ⟨B, 3, none⟩ v3) = W4 at *
  replace F : Five (W4.setCell ⟨B, 4, none⟩ v4) B #[v0, v1, v2, v3, v4, a5, a6, a7, a8, a9, a10] t := F.set (j := 4) (u := v4)
  generalize (W4.setCell ⟨B, 4, none⟩ v4) = W5 at *
  replace F : Five (W5.setCell ⟨B, 5, none⟩ v5) B #[v0, v1, v2, v3, v4, v5, a6, a7, a8, a9, a10] t := F.set (j := 5) (u := v5)
  generalize (W5.setCell ⟨B, 5, none⟩ v5) = W6 at *
  replace F : Five (W6.setCell ⟨B, 6, none⟩ v6) B #[v0, v1, v2, v3, v4, v5, v6, a7, a8, a9, a10] t := F.set (j := 6) (u := v6)
  generalize (W6.setCell ⟨B, 6, none⟩ v6) = W7 at *
  replace F : Five (W7.setCell ⟨B, 7, none⟩ v7) B #[v0, v1, v2, v3, v4, v5, v6, v7, a8, a9, a10] t := F.set (j := 7) (u := v7)
  generalize (W7.setCell ⟨B, 7, none⟩ v7) = W8 at *
  replace F : Five (W8.setCell ⟨B, 8, none⟩ v8) B #[v0, v1, v2, v3, v4, v5, v6, v7, v8, a9, a10] t := F.set (j := 8) (u := v8)
  generalize (W8.setCell ⟨B, 8, none⟩ v8) = W9 at *
  replace F : Five (W9.setCell ⟨B, 9, none⟩ v9) B #[v0, v1, v2, v3, v4, v5, v6, v7, v8, v9, a10] t := F.set (j := 9) (u := v9)
  generalize (W9.setCell ⟨B, 9, none⟩ v9) = W10 at *
  replace F : Five (W10.setCell ⟨B, 10, none⟩ v10) B #[v0, v1, v2, v3, v4, v5, v6, v7, v8, v9, v10] t := F.set (j := 10) (u := v10)
  exact F
theorem Five.eleven_off {W : World} {g B : Nat} {cs : Array Value} {t : TypeId} (h : Five W g cs t) (v0 v1 v2 v3 v4 v5 v6 v7 v8 v9 v10 : Value) (hne : g ≠ B) : Five (((((((((((W.setCell ⟨B, 0, none⟩ v0).setCell ⟨B, 1, none⟩ v1).setCell ⟨B, 2, none⟩ v2).setCell ⟨B, 3, none⟩ v3).setCell ⟨B, 4, none⟩ v4).setCell ⟨B, 5, none⟩ v5).setCell ⟨B, 6, none⟩ v6).setCell ⟨B, 7, none⟩ v7).setCell ⟨B, 8, none⟩ v8).setCell ⟨B, 9, none⟩ v9).setCell ⟨B, 10, none⟩ v10) g cs t :=
  (((((((((((h.other (j := 0) (u := v0) hne).other (j := 1) (u := v1) hne).other (j := 2) (u := v2) hne).other (j := 3) (u := v3) hne).other (j := 4) (u := v4) hne).other (j := 5) (u := v5) hne).other (j := 6) (u := v6) hne).other (j := 7) (u := v7) hne).other (j := 8) (u := v8) hne).other (j := 9) (u := v9) hne).other (j := 10) (u := v10) hne)
set_option maxRecDepth 100000 in
set_option maxHeartbeats 8000000 in
theorem part_first (S : ByteArray) (k g : Nat) (w : World) (hk : k ≤ S.size) (hS : S.size ≤ 4611686018427387904) (hR : Rdr w g S k) (h37 : atB S k ≠ 37) :
    Calls Tryz.prog 121 #[.pointer (some ⟨g, 0, none⟩)] w fun e w' => e = .returned (.tuple #[pcV pc0, .bool false]) ∧ Out [g] w w' := by
  have f0 := Five.new w zc 102
  have hgl := hR.lt
  have cT := take_any S k g 37 (w.alloc (.cells zc 102)) hk hS (by decide) (hR.alloc _)
  rw [if_neg h37, decide_eq_false h37] at cT
  obtain ⟨W1, hW1⟩ : ∃ W1, w.alloc (.cells zc 102) = W1 := ⟨_, rfl⟩
  have hO := (Out.refl [g] w).alloc (.cells zc 102)
  rw [hW1] at cT f0 hO
  have CT := Lib.hid cT
  have HW1 := Lib.hid hW1
  have HO := Lib.hid hO
  have HF := Lib.hid f0
  clear cT hW1 hO h37 hR f0
  obtain ⟨B, hB⟩ : ∃ B, w.heap.size = B := ⟨_, rfl⟩
  have HB := Lib.hid hB
  rw [hB] at HF hgl
  clear hB
  have HG := Lib.hid hgl
  clear hgl
  go_enter Tryz.func121, Tryz.ntmps121
  go_wp2_with fail
  rw [HW1.out, HB.out]
  refine CT.out.mono ?_
  rintro e w1 ⟨rfl, h1, h2⟩
  have HF2 := Lib.hid (h2.five HF.out (by simp; have := HG.out; omega))
  have HO2 := Lib.hid (HO.out.then h2 (fun x hx => Or.inl hx))
  clear h1 h2
  obtain ⟨⟨c0, c1, c2, c3, c4, c5, c6, c7, c8, c9, c10⟩, d0, d1, d2, d3, d4, d5, d6, d7, d8, d9, d10⟩ := HF2.out.eleven
  go_wp2_with fail
  clear c0 c1 c2 c3 c4 c5 c6 c7 c8 c9 c10 d0 d1 d2 d3 d4 d5 d6 d7 d8 d9 d10
  obtain ⟨z, hz⟩ := end11 (.bool false) (.bool false) (.bool false) (.bool false) (.bool false) (.int .i64 0) (.int .i64 0) (.int .u8 0) (.bool false) (.bool false) (.int .i64 0) HF2.out HO2.out (Nat.le_of_eq HB.out)
  obtain ⟨⟨c0, c1, c2, c3, c4, c5, c6, c7, c8, c9, c10⟩, -⟩ := z.eleven
  exact bodyPost_ret (v := .tuple #[.agg #[.bool false, .bool false, .bool false, .bool false, .bool false, .int .i64 0, .int .i64 0, .int .u8 0, .bool false, .bool false, .int .i64 0], .bool false]) (by simp [results, Tryz.results121, go_sem, c0, c1, c2, c3, c4, c5, c6, c7, c8, c9, c10]) rfl ⟨rfl, hz⟩
set_option maxRecDepth 100000 in
set_option maxHeartbeats 16000000 in
theorem part_rest (S : ByteArray) (k g : Nat) (w : World) (hk : k ≤ S.size) (hS : S.size ≤ 4611686018427387904) (hR : Rdr w g S k) (h37 : atB S k = 37) (j1 k2 k3 _k4 x4 : Nat) (wd pr : Int) (sw sp v : Bool)
    (h1 : flE S (k + 1) = j1) (h2 : amt S j1 = (wd, sw, k2)) (h3 : prAt S k2 = (pr, sp, k3)) (h4 : atB S k3 = x4) (h5 : vAll.contains x4.toUInt8 = v) :
    Calls Tryz.prog 121 #[.pointer (some ⟨g, 0, none⟩)] w fun e w' => e = .returned (.tuple #[pcV (if v = true then ⟨hasN S (k + 1) 45 (j1 - (k + 1)), hasN S (k + 1) 43 (j1 - (k + 1)), hasN S (k + 1) 32 (j1 - (k + 1)), hasN S (k + 1) 35 (j1 - (k + 1)), hasN S (k + 1) 48 (j1 - (k + 1)), wd, pr, x4, sw, sp, k3 + 1⟩ else pc0), .bool v]) ∧ (v = true → Rdr w' g S (k3 + 1)) ∧ Out [g] w w' := by
  have f0 := Five.new w zc 102
  have hgl := hR.lt
  have cT := take_any S k g 37 (w.alloc (.cells zc 102)) hk hS (by decide) (hR.alloc _)
  rw [if_pos h37, decide_eq_true h37] at cT
  have hk1 : k < S.size := atB_size (by omega)
  have hj1 := flE_le (S := S) (k := k + 1) (by omega)
  rw [h1] at hj1
  have hk2 := amt_le (S := S) (k := j1) (by omega)
  rw [h2] at hk2
  have hk3 := prAt_le (S := S) (k := k2) hk2.2
  rw [h3] at hk3
  simp only at hk2 hk3
  have CFl := Lib.hid (fun (W : World) (h : Nat) (a : Rdr W g S (k + 1)) (b : Five W h (flV S (k + 1) 0) 102) (c : g ≠ h) => flags_any S (k + 1) g h W (by omega) hS a b c)
  have cAm := fun (W : World) (a : Rdr W g S j1) => amount_any S j1 g W (by omega) hS a
  rw [h2] at cAm
  have CAm := Lib.hid cAm
  have CTk := Lib.hid (fun (W : World) (a : Rdr W g S k2) => take_any S k2 g 46 W hk2.2 hS (by decide) a)
  have CA2 := Lib.hid (fun (W : World) (hl : k2 + 1 ≤ S.size) (a : Rdr W g S (k2 + 1)) => amount_any S (k2 + 1) g W hl hS a)
  have cPk := fun (W : World) (a : Rdr W g S k3) => peek_any S k3 g W hk3.2 hS a
  rw [h4] at cPk
  have CPk := Lib.hid cPk
  have cV := fun W => among_any ⟨#[100, 105, 111, 120, 88, 117, 101, 69, 102, 70, 103, 71, 99, 115, 37]⟩ x4 W
  replace cV : ∀ w : World, Calls Tryz.prog 73 #[.string ⟨#[100, 105, 111, 120, 88, 117, 101, 69, 102, 70, 103, 71, 99, 115, 37]⟩, .int .u8 (x4 : Int)] w fun e w' => e = .returned (.bool (vAll.contains x4.toUInt8)) ∧ w = w' := cV
  rw [h5] at cV
  have CV := Lib.hid cV
  obtain ⟨W1, hW1⟩ : ∃ W1, w.alloc (.cells zc 102) = W1 := ⟨_, rfl⟩
  have hO := (Out.refl [g] w).alloc (.cells zc 102)
  rw [hW1] at cT f0 hO
  have CT := Lib.hid cT
  have HW1 := Lib.hid hW1
  have HO := Lib.hid hO
  have HF := Lib.hid f0
  have H1 := Lib.hid h1
  have H3 := Lib.hid h3
  have HX4 := Lib.hid h4
  have H5 := Lib.hid h5
  have HK2 := Lib.hid hk2
  have HK3 := Lib.hid hk3
  obtain ⟨b0, hb0⟩ : ∃ b0, hasN S (k + 1) 45 (j1 - (k + 1)) = b0 := ⟨_, rfl⟩
  obtain ⟨b1, hb1⟩ : ∃ b1, hasN S (k + 1) 43 (j1 - (k + 1)) = b1 := ⟨_, rfl⟩
  obtain ⟨b2, hb2⟩ : ∃ b2, hasN S (k + 1) 32 (j1 - (k + 1)) = b2 := ⟨_, rfl⟩
  obtain ⟨b3, hb3⟩ : ∃ b3, hasN S (k + 1) 35 (j1 - (k + 1)) = b3 := ⟨_, rfl⟩
  obtain ⟨b4, hb4⟩ : ∃ b4, hasN S (k + 1) 48 (j1 - (k + 1)) = b4 := ⟨_, rfl⟩
  have hFv : flV S (k + 1) (j1 - (k + 1)) = #[.bool b0, .bool b1, .bool b2, .bool b3, .bool b4, .int .i64 0, .int .i64 0, .int .u8 0, .bool false, .bool false, .int .i64 0] := by
    unfold flV
    rw [hb0, hb1, hb2, hb3, hb4]
  rw [hb0, hb1, hb2, hb3, hb4]
  have HFV := Lib.hid hFv
  clear cT hW1 hO h37 hR f0 cAm cPk cV h1 h2 h3 h4 h5 hk2 hk3 hj1 hb0 hb1 hb2 hb3 hb4 hFv
  obtain ⟨B, hB⟩ : ∃ B, w.heap.size = B := ⟨_, rfl⟩
  have HB := Lib.hid hB
  rw [hB] at HF hgl
  clear hB
  have HG := Lib.hid hgl
  clear hgl
  go_enter Tryz.func121, Tryz.ntmps121
  go_wp2_with fail
  rw [HW1.out, HB.out]
  refine CT.out.mono ?_
  rintro e w1 ⟨rfl, r1, o1⟩
  have HF2 := Lib.hid (o1.five HF.out (by simp; have := HG.out; omega))
  have HO2 := Lib.hid (HO.out.then o1 (fun x hx => Or.inl hx))
  have hBl : B < w1.heap.size := HF2.out.lt
  have HR1 := Lib.hid r1
  clear r1 o1 CT HF HO
  go_wp2_with fail
  have FP0 := Five.new w1 zc 102
  have HR2 := Lib.hid (HR1.out.alloc (.cells zc 102))
  have HF3 := Lib.hid (HF2.out.alloc (.cells zc 102))
  have HO3 := Lib.hid (HO2.out.alloc (.cells zc 102))
  obtain ⟨Q, hQ⟩ : ∃ Q, w1.heap.size = Q := ⟨_, rfl⟩
  obtain ⟨W2, hW2⟩ : ∃ W2, w1.alloc (.cells zc 102) = W2 := ⟨_, rfl⟩
  have hgQ : g ≠ Q := by have := HR1.out.lt; omega
  have hBQ : B < Q := by omega
  have hgB : g < B := HG.out
  rw [hQ] at FP0
  rw [hW2] at FP0 HR2 HF3 HO3
  have HW2 := Lib.hid hW2
  have HQ := Lib.hid hQ
  have HFP0 := Lib.hid FP0
  clear hQ hW2 HR1 HF2 HO2 hBl FP0
  have hgBi := Lib.hid hgB
  have hBQi := Lib.hid hBQ
  have hgQi := Lib.hid hgQ
  have n1 : ¬ g = Q := hgQ
  have n2 : ¬ Q = g := fun e => hgQ e.symm
  have n3 : ¬ B = Q := by omega
  have n4 : ¬ Q = B := by omega
  have n5 : ¬ g = B := by omega
  have n6 : ¬ B = g := by omega
  clear hgB hBQ hgQ
  change Calls _ _ _ (w1.alloc (.cells zc 102)) _
  rw [HW2.out, HQ.out]
  refine (CFl.out _ Q HR2.out HFP0.out hgQi.out).mono ?_
  rintro e W3 ⟨rfl, r3, f3, o3⟩
  rw [H1.out] at r3 f3
  rw [HFV.out] at f3
  have HR3 := Lib.hid r3
  have HP3 := Lib.hid f3
  have HF4 := Lib.hid (o3.five HF3.out (by simp; omega))
  have HO4 := Lib.hid (HO3.out.then o3 (fun x hx => by
    rcases List.mem_cons.1 hx with rfl | hx
    · exact Or.inl (by simp)
    · rw [List.mem_singleton.1 hx]
      right
      have := HB.out
      have := hBQi.out
      omega))
  clear r3 f3 o3 CFl HR2 HFP0 HF3 HO3
  go_wp2_with fail
  refine (CAm.out _ HR3.out).mono ?_
  rintro e W4 ⟨rfl, r4, o4⟩
  have HP4 := Lib.hid (o4.five HP3.out (by simp; exact n2))
  have HF5 := Lib.hid (o4.five HF4.out (by simp; exact n6))
  have HO5 := Lib.hid (HO4.out.then o4 (fun x hx => Or.inl hx))
  have HR4 := Lib.hid r4
  clear r4 o4 CAm HR3 HP3 HF4 HO4
  have d5 := HP4.out.fro 5
  have d6 := HP4.out.fro 6
  have d8 := HP4.out.fro 8
  have c5 := HP4.out.cell 5
  have c6 := HP4.out.cell 6
  have c8 := HP4.out.cell 8
  go_wp2_with fail
  clear c5 c6 c8 d5 d6 d8
  have q1 : Five (W4.setCell ⟨Q, 5, none⟩ (.int .i64 wd)) Q #[.bool b0, .bool b1, .bool b2, .bool b3, .bool b4, .int .i64 wd, .int .i64 0, .int .u8 0, .bool false, .bool false, .int .i64 0] 102 := HP4.out.set (j := 5) (u := .int .i64 wd)
  have q2 : Five ((W4.setCell ⟨Q, 5, none⟩ (.int .i64 wd)).setCell ⟨Q, 8, none⟩ (.bool sw)) Q #[.bool b0, .bool b1, .bool b2, .bool b3, .bool b4, .int .i64 wd, .int .i64 0, .int .u8 0, .bool sw, .bool false, .int .i64 0] 102 := q1.set (j := 8) (u := .bool sw)
  have q3 : Five (((W4.setCell ⟨Q, 5, none⟩ (.int .i64 wd)).setCell ⟨Q, 8, none⟩ (.bool sw)).setCell ⟨Q, 6, none⟩ (.int .i64 (-1))) Q #[.bool b0, .bool b1, .bool b2, .bool b3, .bool b4, .int .i64 wd, .int .i64 (-1), .int .u8 0, .bool sw, .bool false, .int .i64 0] 102 := q2.set (j := 6) (u := .int .i64 (-1))
  have r5 : Rdr (((W4.setCell ⟨Q, 5, none⟩ (.int .i64 wd)).setCell ⟨Q, 8, none⟩ (.bool sw)).setCell ⟨Q, 6, none⟩ (.int .i64 (-1))) g S k2 := ((HR4.out.other (j := 5) (u := .int .i64 wd) n1).other (j := 8) (u := .bool sw) n1).other (j := 6) (u := .int .i64 (-1)) n1
  have f5 : Five (((W4.setCell ⟨Q, 5, none⟩ (.int .i64 wd)).setCell ⟨Q, 8, none⟩ (.bool sw)).setCell ⟨Q, 6, none⟩ (.int .i64 (-1))) B zc 102 := ((HF5.out.other (j := 5) (u := .int .i64 wd) n3).other (j := 8) (u := .bool sw) n3).other (j := 6) (u := .int .i64 (-1)) n3
  have hwQ : w.heap.size ≤ Q := by have := HB.out; have := hBQi.out; omega
  have o5 : Out [g] w (((W4.setCell ⟨Q, 5, none⟩ (.int .i64 wd)).setCell ⟨Q, 8, none⟩ (.bool sw)).setCell ⟨Q, 6, none⟩ (.int .i64 (-1))) := ((HO5.out.fresh (p := ⟨Q, 5, none⟩) hwQ _).fresh (p := ⟨Q, 8, none⟩) hwQ _).fresh (p := ⟨Q, 6, none⟩) hwQ _
  have HWQ := Lib.hid hwQ
  obtain ⟨W5, hW5⟩ : ∃ W5, (((W4.setCell ⟨Q, 5, none⟩ (.int .i64 wd)).setCell ⟨Q, 8, none⟩ (.bool sw)).setCell ⟨Q, 6, none⟩ (.int .i64 (-1))) = W5 := ⟨_, rfl⟩
  rw [hW5] at q3 r5 f5 o5 ⊢
  have HP5 := Lib.hid q3
  have HR5 := Lib.hid r5
  have HF6 := Lib.hid f5
  have HO6 := Lib.hid o5
  clear hW5 q1 q2 q3 r5 f5 o5 HP4 HF5 HO5 HR4 hwQ
  refine (CTk.out _ HR5.out).mono ?_
  rintro e W6 ⟨rfl, r6, o6⟩
  have HR6 := Lib.hid r6
  have HP6 := Lib.hid (o6.five HP5.out (by simp; exact n2))
  have HF7 := Lib.hid (o6.five HF6.out (by simp; exact n6))
  have HO7 := Lib.hid (HO6.out.then o6 (fun x hx => Or.inl hx))
  clear r6 o6 HP5 HR5 HF6 HO6 CTk
  have fin : ∀ (W8 : World), Five W8 Q #[.bool b0, .bool b1, .bool b2, .bool b3, .bool b4, .int .i64 wd, .int .i64 pr, .int .u8 0, .bool sw, .bool sp, .int .i64 0] 102 → Rdr W8 g S k3 → Five W8 B zc 102 → Out [g] w W8 → True := fun _ _ _ _ _ => trivial
  clear fin
  by_cases hdot : atB S k2 = 46
  · have hk1 : k2 + 1 ≤ S.size := atB_size (by omega)
    have hpr : amt S (k2 + 1) = (pr, sp, k3) := by have h := H3.out; unfold prAt at h; rw [if_pos hdot] at h; exact h
    have r6 := HR6.out
    rw [if_pos hdot] at r6
    have cA2 := CA2.out W6 hk1 r6
    rw [hpr] at cA2
    have CA3 := Lib.hid cA2
    clear hpr r6 cA2 CA2 hk1
    have hdd : decide (atB S k2 = 46) = true := decide_eq_true hdot
    clear hdot
    go_wp2_with fail
    refine CA3.out.mono ?_
    rintro e W7 ⟨rfl, r7, o7⟩
    have HP7 := Lib.hid (o7.five HP6.out (by simp; exact n2))
    have HF8 := Lib.hid (o7.five HF7.out (by simp; exact n6))
    have HO8 := Lib.hid (HO7.out.then o7 (fun x hx => Or.inl hx))
    have HR7 := Lib.hid r7
    clear r7 o7 CA3 HP6 HF7 HO7 HR6 hdd
    have d6 := HP7.out.fro 6
    have d9 := HP7.out.fro 9
    have c6 := HP7.out.cell 6
    have c9 := HP7.out.cell 9
    go_wp2_with fail
    clear c6 c9 d6 d9
    have hwQ8 : w.heap.size ≤ Q := HWQ.out
    have q8 : Five (W7.setCell ⟨Q, 6, none⟩ (.int .i64 pr)) Q #[.bool b0, .bool b1, .bool b2, .bool b3, .bool b4, .int .i64 wd, .int .i64 pr, .int .u8 0, .bool sw, .bool false, .int .i64 0] 102 := HP7.out.set (j := 6) (u := .int .i64 pr)
    have q9 : Five ((W7.setCell ⟨Q, 6, none⟩ (.int .i64 pr)).setCell ⟨Q, 9, none⟩ (.bool sp)) Q #[.bool b0, .bool b1, .bool b2, .bool b3, .bool b4, .int .i64 wd, .int .i64 pr, .int .u8 0, .bool sw, .bool sp, .int .i64 0] 102 := q8.set (j := 9) (u := .bool sp)
    have HR8 := Lib.hid (show Rdr ((W7.setCell ⟨Q, 6, none⟩ (.int .i64 pr)).setCell ⟨Q, 9, none⟩ (.bool sp)) g S k3 from (HR7.out.other (j := 6) (u := .int .i64 pr) n1).other (j := 9) (u := .bool sp) n1)
    have HF9 := Lib.hid (show Five ((W7.setCell ⟨Q, 6, none⟩ (.int .i64 pr)).setCell ⟨Q, 9, none⟩ (.bool sp)) B zc 102 from (HF8.out.other (j := 6) (u := .int .i64 pr) n3).other (j := 9) (u := .bool sp) n3)
    have HO9 := Lib.hid ((HO8.out.fresh (p := ⟨Q, 6, none⟩) hwQ8 (.int .i64 pr)).fresh (p := ⟨Q, 9, none⟩) hwQ8 (.bool sp))
    have HP8 := Lib.hid q9
    clear q8 q9 HP7 HF8 HO8 HR7 hwQ8
    obtain ⟨W8, hW8⟩ : ∃ W8, ((W7.setCell ⟨Q, 6, none⟩ (.int .i64 pr)).setCell ⟨Q, 9, none⟩ (.bool sp)) = W8 := ⟨_, rfl⟩
    rw [hW8] at HR8 HF9 HO9 HP8 ⊢
    clear hW8
    have hwQ : w.heap.size ≤ Q := HWQ.out
    refine (CPk.out _ HR8.out).mono ?_
    rintro e W9 ⟨rfl, n, rfl⟩
    have d7 := (HP8.out.drew n).fro 7
    have c7 := (HP8.out.drew n).cell 7
    go_wp2_with fail
    clear c7 d7
    have q10 : Five ((W8.drewN n).setCell ⟨Q, 7, none⟩ (.int .u8 (x4 : Int))) Q #[.bool b0, .bool b1, .bool b2, .bool b3, .bool b4, .int .i64 wd, .int .i64 pr, .int .u8 (x4 : Int), .bool sw, .bool sp, .int .i64 0] 102 := (HP8.out.drew n).set (j := 7) (u := .int .u8 (x4 : Int))
    have r10 : Rdr ((W8.drewN n).setCell ⟨Q, 7, none⟩ (.int .u8 (x4 : Int))) g S k3 := (HR8.out.drew n).other (j := 7) (u := .int .u8 (x4 : Int)) n1
    have f10 : Five ((W8.drewN n).setCell ⟨Q, 7, none⟩ (.int .u8 (x4 : Int))) B zc 102 := (HF9.out.drew n).other (j := 7) (u := .int .u8 (x4 : Int)) n3
    have o10 : Out [g] w ((W8.drewN n).setCell ⟨Q, 7, none⟩ (.int .u8 (x4 : Int))) := (HO9.out.drew n).fresh (p := ⟨Q, 7, none⟩) hwQ _
    obtain ⟨W10, hW10⟩ : ∃ W10, ((W8.drewN n).setCell ⟨Q, 7, none⟩ (.int .u8 (x4 : Int))) = W10 := ⟨_, rfl⟩
    rw [hW10] at q10 r10 f10 o10 ⊢
    have HP10 := Lib.hid q10
    have HR10 := Lib.hid r10
    have HF10 := Lib.hid f10
    have HO10 := Lib.hid o10
    clear hW10 q10 r10 f10 o10 HP8 HR8 HF9 HO9 CPk
    refine (CV.out _).mono ?_
    rintro e w' ⟨rfl, rfl⟩
    cases v with
    | false =>
      obtain ⟨⟨c0, c1, c2, c3, c4, c5, c6, c7, c8, c9, c10⟩, d0, d1, d2, d3, d4, d5, d6, d7, d8, d9, d10⟩ := HF10.out.eleven
      go_wp2_with fail
      clear c0 c1 c2 c3 c4 c5 c6 c7 c8 c9 c10 d0 d1 d2 d3 d4 d5 d6 d7 d8 d9 d10
      obtain ⟨z, hz⟩ := end11 (.bool false) (.bool false) (.bool false) (.bool false) (.bool false) (.int .i64 0) (.int .i64 0) (.int .u8 0) (.bool false) (.bool false) (.int .i64 0) HF10.out HO10.out (Nat.le_of_eq HB.out)
      obtain ⟨⟨c0, c1, c2, c3, c4, c5, c6, c7, c8, c9, c10⟩, -⟩ := z.eleven
      exact bodyPost_ret (v := .tuple #[.agg #[.bool false, .bool false, .bool false, .bool false, .bool false, .int .i64 0, .int .i64 0, .int .u8 0, .bool false, .bool false, .int .i64 0], .bool false]) (by simp [results, Tryz.results121, go_sem, c0, c1, c2, c3, c4, c5, c6, c7, c8, c9, c10]) rfl (by first | exact ⟨rfl, hz⟩ | exact ⟨rfl, (fun h => by cases h), hz⟩)
    | true =>
      have hk3s : k3 ≤ S.size := HK3.out.2
      have hw : wrap64 ((k3 : Int) + 1) = ((k3 + 1 : Nat) : Int) := by unfold wrap64; omega
      have e1 := HR10.out.cell 1
      have e2 := HR10.out.fro 1
      have e3 := HP10.out.cell 10
      have e4 := HP10.out.fro 10
      obtain ⟨⟨c0, c1, c2, c3, c4, c5, c6, c7, c8, c9, -⟩, -⟩ := HP10.out.eleven
      obtain ⟨⟨h0, h1, h2, h3, h4, h5, h6, h7, h8, h9, h10⟩, d0, d1, d2, d3, d4, d5, d6, d7, d8, d9, d10⟩ := HF10.out.eleven
      go_wp2_with fail
      clear c0 c1 c2 c3 c4 c5 c6 c7 c8 c9 e1 e2 e3 e4 h0 h1 h2 h3 h4 h5 h6 h7 h8 h9 h10 d0 d1 d2 d3 d4 d5 d6 d7 d8 d9 d10
      have f11 : Five ((W10.setCell ⟨g, 1, none⟩ (.int .i64 ((k3 : Int) + 1))).setCell ⟨Q, 10, none⟩ (.int .i64 ((k3 : Int) + 1))) B zc 102 := (HF10.out.other (j := 1) (u := .int .i64 ((k3 + 1 : Nat) : Int)) n6).other (j := 10) (u := .int .i64 ((k3 + 1 : Nat) : Int)) n3
      have o11 : Out [g] w ((W10.setCell ⟨g, 1, none⟩ (.int .i64 ((k3 : Int) + 1))).setCell ⟨Q, 10, none⟩ (.int .i64 ((k3 : Int) + 1))) := (HO10.out.set (p := ⟨g, 1, none⟩) (by simp) _).fresh (p := ⟨Q, 10, none⟩) hwQ _
      have r11 : Rdr ((W10.setCell ⟨g, 1, none⟩ (.int .i64 ((k3 : Int) + 1))).setCell ⟨Q, 10, none⟩ (.int .i64 ((k3 : Int) + 1))) g S (k3 + 1) := (HR10.out.step (k3 + 1)).other (j := 10) (u := .int .i64 ((k3 + 1 : Nat) : Int)) n1
      obtain ⟨z, hz⟩ := end11 (.bool b0) (.bool b1) (.bool b2) (.bool b3) (.bool b4) (.int .i64 wd) (.int .i64 pr) (.int .u8 (x4 : Int)) (.bool sw) (.bool sp) (.int .i64 ((k3 : Int) + 1)) f11 o11 (Nat.le_of_eq HB.out)
      have r12 := r11.eleven_off (.bool b0) (.bool b1) (.bool b2) (.bool b3) (.bool b4) (.int .i64 wd) (.int .i64 pr) (.int .u8 (x4 : Int)) (.bool sw) (.bool sp) (.int .i64 ((k3 : Int) + 1)) n5
      have r12 : Rdr _ g S (k3 + 1) := r12
      obtain ⟨⟨c0, c1, c2, c3, c4, c5, c6, c7, c8, c9, c10⟩, -⟩ := z.eleven
      exact bodyPost_ret (v := .tuple #[.agg #[.bool b0, .bool b1, .bool b2, .bool b3, .bool b4, .int .i64 wd, .int .i64 pr, .int .u8 (x4 : Int), .bool sw, .bool sp, .int .i64 ((k3 : Int) + 1)], .bool true]) (by simp [results, Tryz.results121, go_sem, c0, c1, c2, c3, c4, c5, c6, c7, c8, c9, c10]) rfl (by first | exact ⟨rfl, r12, hz⟩ | exact ⟨rfl, (fun _ => r12), hz⟩)
  · have h3 := H3.out
    unfold prAt at h3
    rw [if_neg hdot] at h3
    obtain ⟨rfl, rfl, rfl⟩ : (-1 : Int) = pr ∧ false = sp ∧ k2 = k3 := by simpa using h3
    have r6 := HR6.out
    rw [if_neg hdot] at r6
    have HR8 := Lib.hid r6
    have hdd : decide (atB S k2 = 46) = false := decide_eq_false hdot
    obtain ⟨W8, hW8⟩ : ∃ W8, W6 = W8 := ⟨_, rfl⟩
    subst hW8
    have HP8 := HP6
    have HF9 := HF7
    have HO9 := HO7
    clear r6 h3 hdot HP6 HF7 HO7 HR6 CA2 H3
    go_wp2_with fail
    have hwQ : w.heap.size ≤ Q := HWQ.out
    refine (CPk.out _ HR8.out).mono ?_
    rintro e W9 ⟨rfl, n, rfl⟩
    have d7 := (HP8.out.drew n).fro 7
    have c7 := (HP8.out.drew n).cell 7
    go_wp2_with fail
    clear c7 d7
    have q10 : Five ((W6.drewN n).setCell ⟨Q, 7, none⟩ (.int .u8 (x4 : Int))) Q #[.bool b0, .bool b1, .bool b2, .bool b3, .bool b4, .int .i64 wd, .int .i64 (-1), .int .u8 (x4 : Int), .bool sw, .bool false, .int .i64 0] 102 := (HP8.out.drew n).set (j := 7) (u := .int .u8 (x4 : Int))
    have r10 : Rdr ((W6.drewN n).setCell ⟨Q, 7, none⟩ (.int .u8 (x4 : Int))) g S k2 := (HR8.out.drew n).other (j := 7) (u := .int .u8 (x4 : Int)) n1
    have f10 : Five ((W6.drewN n).setCell ⟨Q, 7, none⟩ (.int .u8 (x4 : Int))) B zc 102 := (HF9.out.drew n).other (j := 7) (u := .int .u8 (x4 : Int)) n3
    have o10 : Out [g] w ((W6.drewN n).setCell ⟨Q, 7, none⟩ (.int .u8 (x4 : Int))) := (HO9.out.drew n).fresh (p := ⟨Q, 7, none⟩) hwQ _
    obtain ⟨W10, hW10⟩ : ∃ W10, ((W6.drewN n).setCell ⟨Q, 7, none⟩ (.int .u8 (x4 : Int))) = W10 := ⟨_, rfl⟩
    rw [hW10] at q10 r10 f10 o10 ⊢
    have HP10 := Lib.hid q10
    have HR10 := Lib.hid r10
    have HF10 := Lib.hid f10
    have HO10 := Lib.hid o10
    clear hW10 q10 r10 f10 o10 HP8 HR8 HF9 HO9 CPk
    refine (CV.out _).mono ?_
    rintro e w' ⟨rfl, rfl⟩
    cases v with
    | false =>
      obtain ⟨⟨c0, c1, c2, c3, c4, c5, c6, c7, c8, c9, c10⟩, d0, d1, d2, d3, d4, d5, d6, d7, d8, d9, d10⟩ := HF10.out.eleven
      go_wp2_with fail
      clear c0 c1 c2 c3 c4 c5 c6 c7 c8 c9 c10 d0 d1 d2 d3 d4 d5 d6 d7 d8 d9 d10
      obtain ⟨z, hz⟩ := end11 (.bool false) (.bool false) (.bool false) (.bool false) (.bool false) (.int .i64 0) (.int .i64 0) (.int .u8 0) (.bool false) (.bool false) (.int .i64 0) HF10.out HO10.out (Nat.le_of_eq HB.out)
      obtain ⟨⟨c0, c1, c2, c3, c4, c5, c6, c7, c8, c9, c10⟩, -⟩ := z.eleven
      exact bodyPost_ret (v := .tuple #[.agg #[.bool false, .bool false, .bool false, .bool false, .bool false, .int .i64 0, .int .i64 0, .int .u8 0, .bool false, .bool false, .int .i64 0], .bool false]) (by simp [results, Tryz.results121, go_sem, c0, c1, c2, c3, c4, c5, c6, c7, c8, c9, c10]) rfl (by first | exact ⟨rfl, hz⟩ | exact ⟨rfl, (fun h => by cases h), hz⟩)
    | true =>
      have hk2s : k2 ≤ S.size := HK3.out.2
      have hw : wrap64 ((k2 : Int) + 1) = ((k2 + 1 : Nat) : Int) := by unfold wrap64; omega
      have e1 := HR10.out.cell 1
      have e2 := HR10.out.fro 1
      have e3 := HP10.out.cell 10
      have e4 := HP10.out.fro 10
      obtain ⟨⟨c0, c1, c2, c3, c4, c5, c6, c7, c8, c9, -⟩, -⟩ := HP10.out.eleven
      obtain ⟨⟨h0, h1, h2, h3, h4, h5, h6, h7, h8, h9, h10⟩, d0, d1, d2, d3, d4, d5, d6, d7, d8, d9, d10⟩ := HF10.out.eleven
      go_wp2_with fail
      clear c0 c1 c2 c3 c4 c5 c6 c7 c8 c9 e1 e2 e3 e4 h0 h1 h2 h3 h4 h5 h6 h7 h8 h9 h10 d0 d1 d2 d3 d4 d5 d6 d7 d8 d9 d10
      have f11 : Five ((W10.setCell ⟨g, 1, none⟩ (.int .i64 ((k2 : Int) + 1))).setCell ⟨Q, 10, none⟩ (.int .i64 ((k2 : Int) + 1))) B zc 102 := (HF10.out.other (j := 1) (u := .int .i64 ((k2 + 1 : Nat) : Int)) n6).other (j := 10) (u := .int .i64 ((k2 + 1 : Nat) : Int)) n3
      have o11 : Out [g] w ((W10.setCell ⟨g, 1, none⟩ (.int .i64 ((k2 : Int) + 1))).setCell ⟨Q, 10, none⟩ (.int .i64 ((k2 : Int) + 1))) := (HO10.out.set (p := ⟨g, 1, none⟩) (by simp) _).fresh (p := ⟨Q, 10, none⟩) hwQ _
      have r11 : Rdr ((W10.setCell ⟨g, 1, none⟩ (.int .i64 ((k2 : Int) + 1))).setCell ⟨Q, 10, none⟩ (.int .i64 ((k2 : Int) + 1))) g S (k2 + 1) := (HR10.out.step (k2 + 1)).other (j := 10) (u := .int .i64 ((k2 + 1 : Nat) : Int)) n1
      obtain ⟨z, hz⟩ := end11 (.bool b0) (.bool b1) (.bool b2) (.bool b3) (.bool b4) (.int .i64 wd) (.int .i64 (-1)) (.int .u8 (x4 : Int)) (.bool sw) (.bool false) (.int .i64 ((k2 : Int) + 1)) f11 o11 (Nat.le_of_eq HB.out)
      have r12 := r11.eleven_off (.bool b0) (.bool b1) (.bool b2) (.bool b3) (.bool b4) (.int .i64 wd) (.int .i64 (-1)) (.int .u8 (x4 : Int)) (.bool sw) (.bool false) (.int .i64 ((k2 : Int) + 1)) n5
      have r12 : Rdr _ g S (k2 + 1) := r12
      obtain ⟨⟨c0, c1, c2, c3, c4, c5, c6, c7, c8, c9, c10⟩, -⟩ := z.eleven
      exact bodyPost_ret (v := .tuple #[.agg #[.bool b0, .bool b1, .bool b2, .bool b3, .bool b4, .int .i64 wd, .int .i64 (-1), .int .u8 (x4 : Int), .bool sw, .bool false, .int .i64 ((k2 : Int) + 1)], .bool true]) (by simp [results, Tryz.results121, go_sem, c0, c1, c2, c3, c4, c5, c6, c7, c8, c9, c10]) rfl (by first | exact ⟨rfl, r12, hz⟩ | exact ⟨rfl, (fun _ => r12), hz⟩)
end Go.Proofs.YtbbbdcohkfijoaaGreatDoor

namespace Go.Proofs.YtbbbdcohkfijoaaGreatDoor
open Go.RowKit Go.Lib

def PartEnd (S : ByteArray) (k g : Nat) (w : World) (e : Ending) (w' : World) : Prop := e = .returned (.tuple #[pcV ((partF S k).getD pc0), .bool (partF S k).isSome]) ∧ (∀ x, partF S k = some x → Rdr w' g S x.nx) ∧ Out [g] w w'
theorem part_any (S : ByteArray) (k g : Nat) (w : World) (hk : k ≤ S.size) (hS : S.size ≤ 4611686018427387904) (hR : Rdr w g S k) :
    Calls Tryz.prog 121 #[.pointer (some ⟨g, 0, none⟩)] w (PartEnd S k g w) := by
  unfold PartEnd
  by_cases h37 : atB S k = 37
  · obtain ⟨v, hv⟩ : ∃ v, vAll.contains (atB S (prAt S (amt S (flE S (k + 1))).2.2).2.2).toUInt8 = v := ⟨_, rfl⟩
    refine (part_rest S k g w hk hS hR h37 (flE S (k + 1)) (amt S (flE S (k + 1))).2.2 (prAt S (amt S (flE S (k + 1))).2.2).2.2 0 (atB S (prAt S (amt S (flE S (k + 1))).2.2).2.2) (amt S (flE S (k + 1))).1 (prAt S (amt S (flE S (k + 1))).2.2).1 (amt S (flE S (k + 1))).2.1 (prAt S (amt S (flE S (k + 1))).2.2).2.1 v rfl rfl rfl rfl hv).mono ?_
    rintro e w' ⟨rfl, h1, h2⟩
    unfold partF
    rw [if_pos h37, hv]
    cases v with
    | true => exact ⟨rfl, fun x hx => by cases hx; exact h1 rfl, h2⟩
    | false => exact ⟨rfl, (fun x hx => by cases hx), h2⟩
  · refine (part_first S k g w hk hS hR h37).mono ?_
    rintro e w' ⟨rfl, h2⟩
    unfold partF
    rw [if_neg h37]
    exact ⟨rfl, (fun x hx => by cases hx), h2⟩
/-- The part of a format that begins at a place, or the fault. -/
def parseF (S : ByteArray) (z : Int) : Option Pc := if 0 ≤ z ∧ z < (S.size : Int) then partF S z.toNat else none
set_option maxRecDepth 100000 in
set_option maxHeartbeats 8000000 in
theorem parse_no (S : ByteArray) (z : Int) (w : World) (h : ¬ (0 ≤ z ∧ z < (S.size : Int))) :
    Calls Tryz.prog 69 #[.string S, .int .i64 z] w fun e w' => e = .returned (.tuple #[pcV pc0, .int .i64 50]) ∧ Below w.heap.size w w' := by
  have f0 := Five.new w zc 102
  have hO := Lib.hid ((Out.refl [] w).alloc (.cells zc 102))
  have hcase : z < 0 ∨ (0 ≤ z ∧ ¬ z < (S.size : Int) ∧ (S.size : Int) ≤ z) := by omega
  have HF := Lib.hid f0
  clear h f0
  rcases hcase with h1 | ⟨h1, h2, h3⟩
  all_goals
    obtain ⟨⟨c0, c1, c2, c3, c4, c5, c6, c7, c8, c9, c10⟩, d0, d1, d2, d3, d4, d5, d6, d7, d8, d9, d10⟩ := HF.out.eleven
    go_enter Tryz.func69, Tryz.ntmps69
    go_wp2_with fail
    exact bodyPost_ret (v := .tuple #[.agg #[.bool false, .bool false, .bool false, .bool false, .bool false, .int .i64 0, .int .i64 0, .int .u8 0, .bool false, .bool false, .int .i64 0], .int .i64 50]) (by simp [results, Tryz.results69, go_sem, c0, c1, c2, c3, c4, c5, c6, c7, c8, c9, c10]) rfl ⟨rfl, (Below.refl _ _).alloc (Nat.le_refl _) _⟩
set_option maxRecDepth 100000 in
set_option maxHeartbeats 8000000 in
theorem parse_in (S : ByteArray) (k : Nat) (w : World) (h : k < S.size) (hS : S.size ≤ 4611686018427387904) (y : Option Pc) (hy : partF S k = y) :
    Calls Tryz.prog 69 #[.string S, .int .i64 (k : Int)] w fun e w' => e = .returned (.tuple #[pcV (y.getD pc0), .int .i64 (if y.isSome = true then 0 else 50)]) ∧ Below w.heap.size w w' := by
  have h1 : ¬ (k : Int) < 0 := by omega
  have h2 : (k : Int) < (S.size : Int) := by omega
  have cP := fun (g : Nat) (W : World) (hR : Rdr W g S k) => part_any S k g W (by omega) hS hR
  unfold PartEnd at cP
  rw [hy] at cP
  have fB := (Five.new w zc 102).alloc (.cells #[.string S, .int .i64 (k : Int)] 164)
  have fR := Five.new (w.alloc (.cells zc 102)) #[.string S, .int .i64 (k : Int)] 164
  have hO := ((Out.refl [w.heap.size + 1] w).alloc (.cells zc 102)).alloc (.cells #[.string S, .int .i64 (k : Int)] 164)
  rw [World.size_alloc] at fR
  obtain ⟨B, hB⟩ : ∃ B, w.heap.size = B := ⟨_, rfl⟩
  obtain ⟨W2, hW2⟩ : ∃ W2, (w.alloc (.cells zc 102)).alloc (.cells #[.string S, .int .i64 (k : Int)] 164) = W2 := ⟨_, rfl⟩
  rw [hW2] at fB fR hO
  rw [hB] at fB fR hO ⊢
  have HB := Lib.hid hB
  have HW2 := Lib.hid hW2
  have HFB := Lib.hid fB
  have HFR := Lib.hid (show Rdr W2 (B + 1) S k from fR)
  have HO := Lib.hid hO
  have CP := Lib.hid cP
  clear cP h hy hB hW2 fB fR hO
  cases y with
  | none =>
    go_enter Tryz.func69, Tryz.ntmps69
    go_wp2_with fail
    change Calls _ _ _ ((w.alloc (.cells zc 102)).alloc (.cells #[.string S, .int .i64 (k : Int)] 164)) _
    rw [HW2.out, HB.out]
    refine (CP.out (B + 1) _ HFR.out).mono ?_
    rintro e W3 ⟨rfl, -, o3⟩
    have HF3 := Lib.hid (o3.five HFB.out (by simp))
    have HO3 := Lib.hid (HO.out.trans o3)
    clear o3
    have HF4 := Lib.hid (HF3.out.alloc (.cells zc 102))
    have HO4 := Lib.hid (HO3.out.alloc (.cells zc 102))
    obtain ⟨⟨c0, c1, c2, c3, c4, c5, c6, c7, c8, c9, c10⟩, d0, d1, d2, d3, d4, d5, d6, d7, d8, d9, d10⟩ := HF4.out.eleven
    rw [show pcV ((none : Option Pc).getD pc0) = .agg zc from rfl]
    go_wp2_with fail
    clear c0 c1 c2 c3 c4 c5 c6 c7 c8 c9 c10 d0 d1 d2 d3 d4 d5 d6 d7 d8 d9 d10
    obtain ⟨z, hz⟩ := end11 (.bool false) (.bool false) (.bool false) (.bool false) (.bool false) (.int .i64 0) (.int .i64 0) (.int .u8 0) (.bool false) (.bool false) (.int .i64 0) HF4.out HO4.out (Nat.le_of_eq HB.out)
    obtain ⟨⟨c0, c1, c2, c3, c4, c5, c6, c7, c8, c9, c10⟩, -⟩ := z.eleven
    have hzb : Below B w _ := hz.below (Nat.le_of_eq HB.out.symm) (by simp)
    exact bodyPost_ret (v := .tuple #[.agg #[.bool false, .bool false, .bool false, .bool false, .bool false, .int .i64 0, .int .i64 0, .int .u8 0, .bool false, .bool false, .int .i64 0], .int .i64 50]) (by simp [results, Tryz.results69, go_sem, c0, c1, c2, c3, c4, c5, c6, c7, c8, c9, c10]) rfl ⟨rfl, hzb⟩
  | some x =>
    obtain ⟨m, p, b, a, z, wd, pr, c, sw, sp, nx⟩ := x
    go_enter Tryz.func69, Tryz.ntmps69
    go_wp2_with fail
    change Calls _ _ _ ((w.alloc (.cells zc 102)).alloc (.cells #[.string S, .int .i64 (k : Int)] 164)) _
    rw [HW2.out, HB.out]
    refine (CP.out (B + 1) _ HFR.out).mono ?_
    rintro e W3 ⟨rfl, -, o3⟩
    have HF3 := Lib.hid (o3.five HFB.out (by simp))
    have HO3 := Lib.hid (HO.out.trans o3)
    clear o3
    have HF4 := Lib.hid (HF3.out.alloc (.cells #[.bool m, .bool p, .bool b, .bool a, .bool z, .int .i64 wd, .int .i64 pr, .int .u8 (c : Int), .bool sw, .bool sp, .int .i64 (nx : Int)] 102))
    have HO4 := Lib.hid (HO3.out.alloc (.cells #[.bool m, .bool p, .bool b, .bool a, .bool z, .int .i64 wd, .int .i64 pr, .int .u8 (c : Int), .bool sw, .bool sp, .int .i64 (nx : Int)] 102))
    obtain ⟨⟨c0, c1, c2, c3, c4, c5, c6, c7, c8, c9, c10⟩, d0, d1, d2, d3, d4, d5, d6, d7, d8, d9, d10⟩ := HF4.out.eleven
    obtain ⟨⟨e0, e1, e2, e3, e4, e5, e6, e7, e8, e9, e10⟩, -⟩ := (Five.new W3 #[.bool m, .bool p, .bool b, .bool a, .bool z, .int .i64 wd, .int .i64 pr, .int .u8 (c : Int), .bool sw, .bool sp, .int .i64 (nx : Int)] 102).eleven
    rw [show pcV ((some (⟨m, p, b, a, z, wd, pr, c, sw, sp, nx⟩ : Pc)).getD pc0) = .agg #[.bool m, .bool p, .bool b, .bool a, .bool z, .int .i64 wd, .int .i64 pr, .int .u8 (c : Int), .bool sw, .bool sp, .int .i64 (nx : Int)] from rfl]
    go_wp2_with fail
    clear c0 c1 c2 c3 c4 c5 c6 c7 c8 c9 c10 d0 d1 d2 d3 d4 d5 d6 d7 d8 d9 d10 e0 e1 e2 e3 e4 e5 e6 e7 e8 e9 e10
    obtain ⟨z', hz⟩ := end11 (.bool m) (.bool p) (.bool b) (.bool a) (.bool z) (.int .i64 wd) (.int .i64 pr) (.int .u8 (c : Int)) (.bool sw) (.bool sp) (.int .i64 (nx : Int)) HF4.out HO4.out (Nat.le_of_eq HB.out)
    obtain ⟨⟨c0, c1, c2, c3, c4, c5, c6, c7, c8, c9, c10⟩, -⟩ := z'.eleven
    have hzb : Below B w _ := hz.below (Nat.le_of_eq HB.out.symm) (by simp)
    exact bodyPost_ret (v := .tuple #[.agg #[.bool m, .bool p, .bool b, .bool a, .bool z, .int .i64 wd, .int .i64 pr, .int .u8 (c : Int), .bool sw, .bool sp, .int .i64 (nx : Int)], .int .i64 0]) (by simp [results, Tryz.results69, go_sem, c0, c1, c2, c3, c4, c5, c6, c7, c8, c9, c10]) rfl ⟨rfl, hzb⟩
def pErr (y : Option Pc) : Int := if y.isSome = true then 0 else 50
theorem fparse_any (S : ByteArray) (z : Int) (w : World) (hS : S.size ≤ 4611686018427387904) :
    Calls Tryz.prog 69 #[.string S, .int .i64 z] w fun e w' => e = .returned (.tuple #[pcV ((parseF S z).getD pc0), .int .i64 (pErr (parseF S z))]) ∧ Below w.heap.size w w' := by
  by_cases h : 0 ≤ z ∧ z < (S.size : Int)
  · obtain ⟨k, rfl⟩ : ∃ k : Nat, z = (k : Int) := ⟨z.toNat, by omega⟩
    have hp : parseF S (k : Int) = partF S k := by unfold parseF; rw [if_pos h, Int.toNat_natCast]
    rw [hp]
    exact parse_in S k w (by omega) hS _ rfl
  · have hp : parseF S z = none := by unfold parseF; rw [if_neg h]
    rw [hp]
    exact parse_no S z w h
end Go.Proofs.YtbbbdcohkfijoaaGreatDoor

namespace Go.Proofs.YtbbbdcohkfijoaaGreatDoor
open Go.RowKit Go.Lib

set_option maxRecDepth 100000 in
set_option maxHeartbeats 2000000 in
/-- strings.Cut at a byte that stands first, or of an empty text. -/
theorem cut_first (s : ByteArray) (x : UInt8) (w : World) (hs : s.size ≤ 4611686018427387904) (h : s.data.toList = [] ∨ ∃ t, s.data.toList = x :: t) :
    Calls Tryz.prog 283 #[.string s, .string ⟨#[x]⟩] w fun e w' => (∃ T F, e = .returned (.tuple #[.string ⟨#[]⟩, .string T, .bool F])) ∧ Below w.heap.size w w' := by
  have cI := fun W => Tryz.stringslite_Index_one s x W
  rcases h with h | ⟨t, h⟩
  · have hx : Lib.indexByte s.data.toList x = -1 := by rw [h]; rfl
    rw [hx] at cI
    have hs0 : s = ⟨#[]⟩ := by rw [← Lib.mk_data s, h]
    have CI := Lib.hid cI
    clear cI hx h
    subst hs0
    go_enter Tryz.func283, Tryz.ntmps283
    go_wp2_with fail
    refine (CI.out _).mono ?_
    rintro e w' ⟨rfl, rfl⟩
    go_wp2_with fail
    go_ret3
    exact ⟨⟨_, _, rfl⟩, Below.refl _ _⟩
  · have hx : Lib.indexByte s.data.toList x = 0 := by
      rw [h]
      show (if (x == x) = true then (0 : Int) else _) = 0
      rw [beq_self_eq_true, if_pos rfl]
    rw [hx] at cI
    have h1 : 1 ≤ s.size := by rw [← ba_len, h]; simp
    have CI := Lib.hid cI
    clear cI hx h
    go_enter Tryz.func283, Tryz.ntmps283
    go_wp2_with fail
    refine (CI.out _).mono ?_
    rintro e w' ⟨rfl, rfl⟩
    go_wp2_with fail
    have h1i : (1 : Int) ≤ (s.size : Int) := by omega
    have hw1 : IntKind.i64.wrap (0 + 1) = 1 := by decide
    go_quiet (fail)
    go_wp2_with fail
    go_ret3
    refine ⟨⟨s.extract 1 s.size, true, ?_⟩, below_drewN (Below.refl _ _) _⟩
    simp
    rfl
theorem cutS_first (s : ByteArray) (x : UInt8) (w : World) (hs : s.size ≤ 4611686018427387904) (h : s.data.toList = [] ∨ ∃ t, s.data.toList = x :: t) :
    Calls Tryz.prog 238 #[.string s, .string ⟨#[x]⟩] w fun e w' => (∃ T F, e = .returned (.tuple #[.string ⟨#[]⟩, .string T, .bool F])) ∧ Below w.heap.size w w' := by
  have C := Lib.hid (cut_first s x w hs h)
  clear h
  go_enter Tryz.func238, Tryz.ntmps238
  go_wp2_with fail
  refine C.out.mono ?_
  rintro e w' ⟨⟨T, F, rfl⟩, hB⟩
  go_wp2_with fail
  go_ret3
  exact ⟨⟨_, _, rfl⟩, hB⟩
set_option maxRecDepth 100000 in
set_option maxHeartbeats 4000000 in
/-- Where a part begins, or at the end, nothing stands ahead. -/
theorem plain_none (S : ByteArray) (k g : Nat) (w : World) (hk : k ≤ S.size) (hS : S.size ≤ 4611686018427387904) (hR : Rdr w g S k) (h : k = S.size ∨ atB S k = 37) :
    Calls Tryz.prog 185 #[.pointer (some ⟨g, 0, none⟩)] w fun e w' => e = .returned (.string ⟨#[]⟩) ∧ Rdr w' g S k ∧ Out [g] w w' := by
  have hl : (S.extract k S.size).data.toList = S.data.toList.drop k := by
    rw [ByteArray.data_extract, Array.toList_extract]
    simp only [List.extract]
    rw [List.take_of_length_le]
    rw [List.length_drop, ba_len]
    omega
  have hx : (S.extract k S.size).data.toList = [] ∨ ∃ t, (S.extract k S.size).data.toList = 37 :: t := by
    rw [hl]
    rcases h with rfl | h
    · left
      rw [List.drop_eq_nil_iff, ba_len]
      omega
    · right
      have hlt := atB_size (S := S) (k := k) (by omega)
      rw [atB_in hlt] at h
      refine ⟨S.data.toList.drop (k + 1), ?_⟩
      have h3 := List.drop_eq_getElem_cons (l := S.data.toList) (i := k) (by rw [ba_len]; exact hlt)
      rw [h3]
      congr 1
      have h4 : S.data.toList[k]'(by rw [ba_len]; exact hlt) = S[k]'hlt := by
        have := ba_byte S rfl k hlt
        rw [List.getElem?_eq_getElem (by rw [ba_len]; exact hlt)] at this
        exact Option.some.inj this
      rw [h4]
      exact UInt8.toNat_inj.1 h
  have C := Lib.hid (fun (W : World) => cutS_first (S.extract k S.size) 37 W (by rw [ByteArray.size_extract]; omega) hx)
  have H := Lib.hid hR
  have c0 := hR.cell 0
  have c1 := hR.cell 1
  have f1 := hR.fro 1
  have hki : (k : Int) ≤ (S.size : Int) := by omega
  have hki0 : (0 : Int) ≤ (k : Int) := by omega
  have hw0 : wrap64 ((k : Int) + 0) = (k : Int) := by unfold wrap64; omega
  clear hx hl h hR
  go_enter Tryz.func185, Tryz.ntmps185
  go_wp2_with fail
  have HCW := Lib.hid (fun (W : World) (h : Below w.heap.size w W) => (show W.cell? ⟨g, 0, none⟩ = some (.string S) ∧ W.cell? ⟨g, 1, none⟩ = some (.int .i64 (k : Int)) from ⟨(H.out.below h).cell 0, (H.out.below h).cell 1⟩))
  clear c0 c1 f1
  have c0 : w.cell? ⟨g, 0, none⟩ = some (.string S) := H.out.cell 0
  have c1 : w.cell? ⟨g, 1, none⟩ = some (.int .i64 (k : Int)) := H.out.cell 1
  go_region_held3 (fun w' => w'.cell? ⟨g, 0, none⟩ = some (.string S) ∧ w'.cell? ⟨g, 1, none⟩ = some (.int .i64 (k : Int)))
    (first | (with_reducible exact S1) | go_keep)
    (first
    | (go_at_call 238; (with_reducible refine (C.out _).mono ?_); rintro e W3 ⟨⟨T, F, rfl⟩, h3⟩; have b3 : Below w.heap.size w W3 := ⟨h3.os, h3.tape, h3.output, h3.size, h3.block⟩; have S1 := HCW.out _ b3; clear h3))
  all_goals
    have f3 := (H.out.below b3).fro 1
    obtain ⟨d0, d1⟩ := S1
    have HB3 := Lib.hid b3
    clear b3
    go_wp2_with fail
    go_ret
    refine ⟨rfl, ?_, ?_⟩
    · first | exact (show Rdr _ g S k from H.out.below HB3.out).step k | exact (show Rdr _ g S k from (H.out.below HB3.out)) | exact ⟨((show Rdr _ g S k from H.out.below HB3.out).step k).row⟩
    · first | exact (Out.of_below HB3.out).set (p := ⟨g, 1, none⟩) (by simp) _ | exact Out.of_below HB3.out | exact ((Out.of_below HB3.out).drew _).set (p := ⟨g, 1, none⟩) (by simp) _
theorem isB_out {T e : TypeId} {B b g : Nat} {bs : List Value} {w w' : World} (h : Lib.IsBuilder T e B b bs w) (o : Out [g] w w') (hg : g < B) : Lib.IsBuilder T e B b bs w' := by
  have key : ∀ {p : Value}, Lib.BuilderAt T e B b p bs w → Lib.BuilderAt T e B b p bs w' := fun {p} ⟨hB, v, hb, hown, hne⟩ => by
    have same : ∀ {q : Nat} {ob : Obj}, B ≤ q → w.heap[q]? = some ob → w'.heap[q]? = some ob := fun {q ob} hq hx =>
      (o.block q (by simp; omega) (Array.getElem?_eq_some_iff.1 hx).1).trans hx
    refine ⟨hB, v, same hB hb, ⟨hown.1, ?_⟩, hne⟩
    rcases hown.2 with h1 | ⟨g2, cap, cur, hv, hbg, hg2, r⟩
    · exact Or.inl h1
    · exact Or.inr ⟨g2, cap, cur, hv, hbg, same hbg hg2, r⟩
  rcases h with h | h
  · exact Or.inl (key h)
  · exact Or.inr (key h)
theorem write_any (B b : Nat) (bs : List Value) (s : ByteArray) (w : World) (h : Lib.IsBuilder 234 5 B b bs w) (hlen : bs.length + s.size ≤ 140737488355328) (hBw : B ≤ w.heap.size) :
    Calls Tryz.prog 184 #[.pointer (some ⟨b, 0, none⟩), .string s] w fun e w' => e = .returned (.tuple #[.int .i64 s.size, .nilIface]) ∧ (Lib.IsBuilder 234 5 B b (bs ++ Lib.strCells s) w' ∧ Below B w w') :=
  (Any.Builder_WriteString (ρ := Tryz.lays158_ren) { Tryz.lays158 with } Tryz.Builder_Extra_158 B b bs s w h hlen hBw).mono fun _ _ ⟨h1, h2, h3⟩ => ⟨h1, Or.inr h2, h3⟩
end Go.Proofs.YtbbbdcohkfijoaaGreatDoor

namespace Go.Proofs.YtbbbdcohkfijoaaGreatDoor
open Go.RowKit Go.Lib

theorem Out.then_below {G : List Nat} {a b c : World} {B : Nat} (h : Out G a b) (k : Below B b c) (hB : a.heap.size ≤ B) : Out G a c :=
  ⟨k.os.trans h.os, k.tape.trans h.tape, k.output.trans h.output, Nat.le_trans h.size k.size, fun i hi hl => (k.block i (by omega)).trans (h.block i hi hl)⟩
theorem Five.belowB {W W' : World} {g B : Nat} {cs : Array Value} {t : TypeId} (h : Five W g cs t) (hb : Below B W W') (hg : g < B) : Five W' g cs t := ⟨(hb.block g hg).trans h.row⟩
theorem out_loop {G : List Nat} {a b c : World} (h : Out G a b) (k : Below b.heap.size b c) : Out G a c := h.then (Out.of_below (G := []) k) (fun x hx => by cases hx)
set_option maxRecDepth 100000 in
set_option maxHeartbeats 16000000 in
theorem filled_one (P T : ByteArray) (g x _nx : Nat) (m p b a z : Bool) (wd pr : Int) (c : Nat) (w : World) (hP : P.size ≤ 1000000) (hP0 : 0 < P.size) (hp : partF P 0 = some ⟨m, p, b, a, z, wd, pr, c, false, false, P.size⟩) (hc : c ≠ 37) (hR : Rdr w g P 0)
    (hN : ∀ W, PowTab W → Calls Tryz.prog 25 #[.agg #[.bool m, .bool p, .bool b, .bool a, .bool z, .int .i64 wd, .int .i64 pr, .int .u8 (c : Int)], .float .f64 x] W fun e w' => e = .returned (.tuple #[.string T, .int .i64 0]) ∧ Below W.heap.size W w')
    (hTs : T.size ≤ 1000000) (hT : ∀ W, Out [g] w W → PowTab W) :
    Calls Tryz.prog 125 #[.pointer (some ⟨g, 0, none⟩), .float .f64 x] w fun e w' => e = .returned (.tuple #[.string T, .bool true]) ∧ Out [g] w w' := by
  have h37 : atB P 0 = 37 := by
    unfold partF at hp
    split at hp
    · assumption
    · cases hp
  have CPl := Lib.hid (fun (k : Nat) (W : World) (hk : k ≤ P.size) (r : Rdr W g P k) (h : k = P.size ∨ atB P k = 37) => plain_none P k g W hk (by omega) r h)
  have cPa := fun (W : World) (r : Rdr W g P 0) => part_any P 0 g W (by omega) (by omega) r
  unfold PartEnd at cPa
  rw [hp] at cPa
  have CPa := Lib.hid cPa
  have CN := Lib.hid hN
  have HT := Lib.hid hT
  have HR := Lib.hid hR
  have hgl := hR.lt
  have HGL := Lib.hid hgl
  have fb := Lib.fresh_isBuilder 234 5 w
  have hO := (Out.refl [g] w).alloc (.cells #[.pointer none, .slice none 0 0] 234)
  have r1 := hR.alloc (.cells #[.pointer none, .slice none 0 0] 234)
  obtain ⟨B, hB⟩ : ∃ B, w.heap.size = B := ⟨_, rfl⟩
  obtain ⟨W1, hW1⟩ : ∃ W1, w.alloc (.cells #[.pointer none, .slice none 0 0] 234) = W1 := ⟨_, rfl⟩
  rw [hW1] at fb hO r1
  rw [hB] at fb HGL
  have HB := Lib.hid hB
  have HW1 := Lib.hid hW1
  have HFB := Lib.hid fb
  have HO := Lib.hid hO
  have HR1 := Lib.hid (show Rdr W1 g P 0 from r1)
  have HH := Lib.hid h37
  have HC := Lib.hid hc
  clear hp cPa hN hT hR fb hO r1 hB hW1 h37 hc hgl
  go_enter Tryz.func125, Tryz.ntmps125
  go_wp2_with fail
  rw [HW1.out, HB.out]
  have hwB : w.heap.size ≤ B := Nat.le_of_eq HB.out
  refine (CPl.out 0 _ (by omega) HR1.out (Or.inr HH.out)).mono ?_
  rintro e W2 ⟨rfl, r2, o2⟩
  have b2 := isB_out HFB.out o2 HGL.out
  have HO2 := Lib.hid (HO.out.trans o2)
  have HR2 := Lib.hid r2
  have hl2 : B ≤ W2.heap.size := by have := HO2.out.size; have := HB.out; omega
  have CW := Lib.hid (write_any B B [] ⟨#[]⟩ W2 b2 (by decide) hl2)
  clear r2 o2 b2 HFB HO HR1
  go_wp2_with fail
  refine CW.out.mono ?_
  rintro e W3 ⟨rfl, b3, h3⟩
  have HB3 := Lib.hid (show Lib.IsBuilder 234 5 B B [] W3 from b3)
  have HR3 := Lib.hid (show Rdr W3 g P 0 from HR2.out.belowB h3 HGL.out)
  have HO3 := Lib.hid (HO2.out.then_below h3 hwB)
  clear b3 h3 CW HR2 HO2 hl2
  go_wp2_with fail
  go_loopw [7] (fun wv wr => (wv = .bool false ∧ Rdr wr g P 0 ∧ Lib.IsBuilder 234 5 B B [] wr ∧ Out [g] w wr) ∨ (wv = .bool true ∧ Rdr wr g P P.size ∧ Lib.IsBuilder 234 5 B B (Lib.strCells T) wr ∧ Out [g] w wr)) (fun wv _ => match wv with | .bool true => 0 | _ => 1)
  case atStart => exact Or.inl ⟨rfl, HR3.out, HB3.out, HO3.out⟩
  case round =>
    rcases hrel with ⟨rfl, rr, bb, oo⟩ | ⟨rfl, rr, bb, oo⟩
    · have c0 := rr.cell 0
      have c1 := rr.cell 1
      have HRr := Lib.hid rr
      have HBb := Lib.hid bb
      have HOo := Lib.hid oo
      have hps : (0 : Int) < (P.size : Int) := by omega
      clear rr bb oo HR3 HB3 HO3
      go_wp2_with fail
      go_quiet (fail)
      clear c0 c1
      have HRq := Lib.hid (show Rdr (wr.drewN nq) g P 0 from HRr.out.drew nq)
      have HOq := Lib.hid (HOo.out.drew nq)
      have HBq := Lib.hid (isB_out HBb.out ((Out.refl [g] wr).drew nq) HGL.out)
      obtain ⟨Wq, hWq⟩ : ∃ Wq, wr.drewN nq = Wq := ⟨_, rfl⟩
      rw [hWq] at HRq HOq HBq ⊢
      clear hWq HRr HBb HOo
      go_wp2_with fail
      refine (CPa.out _ HRq.out).mono ?_
      rintro e W4 ⟨rfl, r4, o4⟩
      have r4 := r4 _ rfl
      rw [show pcV ((some (⟨m, p, b, a, z, wd, pr, c, false, false, P.size⟩ : Pc)).getD pc0) = .agg #[.bool m, .bool p, .bool b, .bool a, .bool z, .int .i64 wd, .int .i64 pr, .int .u8 (c : Int), .bool false, .bool false, .int .i64 (P.size : Int)] from rfl]
      have HR5 := Lib.hid (show Rdr (W4.alloc (.cells #[.bool m, .bool p, .bool b, .bool a, .bool z, .int .i64 wd, .int .i64 pr, .int .u8 (c : Int), .bool false, .bool false, .int .i64 (P.size : Int)] 102)) g P P.size from Five.alloc r4 _)
      have HO5 := Lib.hid ((HOq.out.trans o4).alloc (.cells #[.bool m, .bool p, .bool b, .bool a, .bool z, .int .i64 wd, .int .i64 pr, .int .u8 (c : Int), .bool false, .bool false, .int .i64 (P.size : Int)] 102))
      have HB5 := Lib.hid (isB_out (isB_out HBq.out o4 HGL.out) ((Out.refl [g] W4).alloc (.cells #[.bool m, .bool p, .bool b, .bool a, .bool z, .int .i64 wd, .int .i64 pr, .int .u8 (c : Int), .bool false, .bool false, .int .i64 (P.size : Int)] 102)) HGL.out)
      obtain ⟨⟨e0, e1, e2, e3, e4, e5, e6, e7, e8, e9, e10⟩, -⟩ := (Five.new W4 #[.bool m, .bool p, .bool b, .bool a, .bool z, .int .i64 wd, .int .i64 pr, .int .u8 (c : Int), .bool false, .bool false, .int .i64 (P.size : Int)] 102).eleven
      have hcv : ((c : Int) == 37) = false := by rw [beq_eq_false_iff_ne]; have := HC.out; omega
      clear r4 o4 HRq HOq HBq
      go_wp2_with fail
      clear e0 e1 e2 e3 e4 e5 e6 e7 e8 e9 e10
      obtain ⟨W5, hW5⟩ : ∃ W5, W4.alloc (.cells #[.bool m, .bool p, .bool b, .bool a, .bool z, .int .i64 wd, .int .i64 pr, .int .u8 (c : Int), .bool false, .bool false, .int .i64 (P.size : Int)] 102) = W5 := ⟨_, rfl⟩
      rw [hW5] at HR5 HO5 HB5 ⊢
      clear hW5
      refine (CN.out _ (HT.out _ HO5.out)).mono ?_
      rintro e W6 ⟨rfl, h6⟩
      have HR6 := Lib.hid (show Rdr W6 g P P.size from Five.below HR5.out h6)
      have HO6 := Lib.hid (out_loop HO5.out h6)
      have b6 := isB_out HB5.out (Out.of_below (G := [g]) h6) HGL.out
      have hl6 : B ≤ W6.heap.size := by have := HO6.out.size; have := HB.out; omega
      have CW6 := Lib.hid (write_any B B [] T W6 b6 (by simp; omega) hl6)
      clear h6 b6 hl6 HR5 HO5 HB5
      go_wp2_with fail
      refine CW6.out.mono ?_
      rintro e W7 ⟨rfl, b7, h7⟩
      have HR7 := Lib.hid (show Rdr W7 g P P.size from HR6.out.belowB h7 HGL.out)
      have HO7 := Lib.hid (HO6.out.then_below h7 (Nat.le_of_eq HB.out))
      have HB7 := Lib.hid (show Lib.IsBuilder 234 5 B B (Lib.strCells T) W7 from b7)
      clear b7 h7 HR6 HO6 CW6
      go_wp2_with fail
      refine (CPl.out P.size _ (Nat.le_refl _) HR7.out (Or.inl rfl)).mono ?_
      rintro e W8 ⟨rfl, r8, o8⟩
      have HR8 := Lib.hid r8
      have HO8 := Lib.hid (HO7.out.trans o8)
      have b8 := isB_out HB7.out o8 HGL.out
      have hl8 : B ≤ W8.heap.size := by have := HO8.out.size; have := HB.out; omega
      have CW8 := Lib.hid (write_any B B (Lib.strCells T) ⟨#[]⟩ W8 b8 (by rw [Lib.strCells_length]; show T.size + 0 ≤ _; omega) hl8)
      clear r8 o8 b8 hl8 HR7 HO7 HB7
      go_wp2_with fail
      refine CW8.out.mono ?_
      rintro e W9 ⟨rfl, b9, h9⟩
      have HR9 := Lib.hid (show Rdr W9 g P P.size from HR8.out.belowB h9 HGL.out)
      have HO9 := Lib.hid (HO8.out.then_below h9 (Nat.le_of_eq HB.out))
      have HB9 := Lib.hid (show Lib.IsBuilder 234 5 B B (Lib.strCells T) W9 from by
        rw [show Lib.strCells (⟨#[]⟩ : ByteArray) = [] from rfl, List.append_nil] at b9
        exact b9)
      clear b9 h9 HR8 HO8 CW8
      go_wp2_with fail
      go_roundw
      case rel => exact Or.inr ⟨rfl, HR9.out, HB9.out, HO9.out⟩
      case measure => decide
    · have c0 := rr.cell 0
      have c1 := rr.cell 1
      have hnl : ¬ (P.size : Int) < (P.size : Int) := by omega
      have HBb := Lib.hid bb
      have HOo := Lib.hid oo
      clear rr bb oo HR3 HB3 HO3
      go_wp2_with fail
      go_quiet (fail)
      clear c0 c1
      have HOq := Lib.hid (HOo.out.drew nq)
      have bq := isB_out HBb.out ((Out.refl [g] wr).drew nq) HGL.out
      obtain ⟨Wq, hWq⟩ : ∃ Wq, wr.drewN nq = Wq := ⟨_, rfl⟩
      rw [hWq] at HOq bq ⊢
      have hlq : B ≤ Wq.heap.size := by have := HOq.out.size; have := HB.out; omega
      have cS := Tryz.Builder_String_any B B T.data.toList Wq bq hlq
      have hTT : (⟨T.data.toList.toArray⟩ : ByteArray) = T := by rw [← Lib.mk_data T]
      rw [hTT] at cS
      have CS := Lib.hid cS
      clear hWq HBb HOo bq hlq cS hTT
      go_wp2_with fail
      refine CS.out.mono ?_
      rintro e W9 ⟨rfl, h9⟩
      have HO9 := Lib.hid (HOq.out.then_below h9 (Nat.le_of_eq HB.out))
      clear h9
      go_wp2_with fail
      go_ret2
      exact ⟨rfl, HO9.out⟩
end Go.Proofs.YtbbbdcohkfijoaaGreatDoor

namespace Go.Proofs.YtbbbdcohkfijoaaGreatDoor
open Go.RowKit Go.Lib

set_option maxRecDepth 100000 in
set_option maxHeartbeats 4000000 in
theorem conv_whole (x : Nat) (P : ByteArray) (w : World) (hb : x < 18446744073709551616) (h : wholeB x 4846369599423283200 = true) (hT : PowTab w) :
    Calls Tryz.prog 71 #[.float .f64 x, .string P] w fun e w' => e = .returned (.string ⟨(wholeT x).toArray⟩) ∧ Below w.heap.size w w' := by
  have C := Lib.hid (whole_yes x w hb h hT)
  clear h hT
  go_enter Tryz.func71, Tryz.ntmps71
  go_wp2_with fail
  refine C.out.mono ?_
  rintro e w' ⟨rfl, hB⟩
  go_wp2_with fail
  go_ret
  exact ⟨rfl, hB⟩
set_option maxRecDepth 100000 in
set_option maxHeartbeats 4000000 in
theorem conv_odd (x : Nat) (P : ByteArray) (n : List UInt8) (w : World) (hb : x < 18446744073709551616) (h : wholeB x 4846369599423283200 = false) (ho : oddL x = some n) :
    Calls Tryz.prog 71 #[.float .f64 x, .string P] w fun e w' => e = .returned (.string ⟨n.toArray⟩) ∧ Below w.heap.size w w' := by
  have C := Lib.hid (whole_no x w hb h)
  have cO := fun W => boundless_any x W hb
  rw [ho] at cO
  replace cO : ∀ w : World, Calls Tryz.prog 74 #[.float .f64 x] w fun e w' => e = .returned (.tuple #[.string ⟨n.toArray⟩, .bool true]) ∧ w = w' := cO
  obtain ⟨N, hN⟩ : ∃ N : ByteArray, (⟨n.toArray⟩ : ByteArray) = N := ⟨_, rfl⟩
  rw [hN] at cO ⊢
  have CO := Lib.hid cO
  clear h ho cO hN
  go_enter Tryz.func71, Tryz.ntmps71
  go_wp2_with fail
  refine C.out.mono ?_
  rintro e w' ⟨rfl, rfl⟩
  go_wp2_with fail
  refine (CO.out _).mono ?_
  rintro e w' ⟨rfl, rfl⟩
  go_wp2_with fail
  go_ret
  exact ⟨rfl, Below.refl _ _⟩
set_option maxRecDepth 100000 in
set_option maxHeartbeats 4000000 in
theorem conv_one (P T : ByteArray) (x : Nat) (m p b a z : Bool) (wd pr : Int) (c : Nat) (w : World) (hb : x < 18446744073709551616) (hP : P.size ≤ 1000000) (hP0 : 0 < P.size) (hp : partF P 0 = some ⟨m, p, b, a, z, wd, pr, c, false, false, P.size⟩) (hc : c ≠ 37)
    (h : wholeB x 4846369599423283200 = false) (ho : oddL x = none)
    (hN : ∀ W, PowTab W → Calls Tryz.prog 25 #[.agg #[.bool m, .bool p, .bool b, .bool a, .bool z, .int .i64 wd, .int .i64 pr, .int .u8 (c : Int)], .float .f64 x] W fun e w' => e = .returned (.tuple #[.string T, .int .i64 0]) ∧ Below W.heap.size W w')
    (hTs : T.size ≤ 1000000) (hT : PowTab w) :
    Calls Tryz.prog 71 #[.float .f64 x, .string P] w fun e w' => e = .returned (.string T) ∧ Below w.heap.size w w' := by
  have C := Lib.hid (whole_no x w hb h)
  have cO := fun W => boundless_any x W hb
  rw [ho] at cO
  replace cO : ∀ w : World, Calls Tryz.prog 74 #[.float .f64 x] w fun e w' => e = .returned (.tuple #[.string ⟨#[]⟩, .bool false]) ∧ w = w' := cO
  have CO := Lib.hid cO
  have HTB := Lib.hid (Lib.tabBelow_of_tabIs hT)
  have fR := Five.new w #[.string P, .int .i64 0] 164
  have hbel := (Below.refl w.heap.size w).alloc (Nat.le_refl _) (.cells #[.string P, .int .i64 0] 164)
  have cF := filled_one P T w.heap.size x 0 m p b a z wd pr c (w.alloc (.cells #[.string P, .int .i64 0] 164)) hP hP0 hp hc fR hN hTs (fun W o => HTB.out W (hbel.trans (o.below (by simp) (by simp))))
  have CF := Lib.hid cF
  have HBEL := Lib.hid hbel
  clear cF cO hT fR hbel h ho hN hp
  go_enter Tryz.func71, Tryz.ntmps71
  go_wp2_with fail
  refine C.out.mono ?_
  rintro e w' ⟨rfl, rfl⟩
  go_wp2_with fail
  refine (CO.out _).mono ?_
  rintro e w' ⟨rfl, rfl⟩
  go_wp2_with fail
  refine CF.out.mono ?_
  rintro e w2 ⟨rfl, o2⟩
  have hBf := HBEL.out.trans (o2.below (by simp) (by simp))
  clear o2
  go_wp2_with fail
  go_ret
  exact ⟨rfl, hBf⟩
/-- %.6g, %.3f, %.17g -/
abbrev p6g : ByteArray := ⟨#[37, 46, 54, 103]⟩
theorem part_6g : partF p6g 0 = some ⟨false, false, false, false, false, 0, 6, 103, false, false, 4⟩ := by rfl
theorem cap_len (c : Nat) (l : List UInt8) : (capL c l).length = l.length := by
  unfold capL
  split
  · exact upper_len l
  · rfl
theorem pointT_len (w : World) {m p b a z : Bool} {wd pr : Int} {c x : Nat} (h : mag x < 9218868437227405312) (h0 : 0 ≤ wd) (h1 : wd ≤ 1024) (h2 : -1 ≤ pr) (h3 : pr ≤ 190) : (pointT m p b a z wd pr c x).length ≤ 100000 := by
  unfold pointT laidL fillL
  have h4 := len_ptD w h h2 h3 a c
  have h5 := sgn_len p b c (sbB x)
  have h6 := cap_len c (ptD (mag x) pr a c)
  split
  · simp only [List.length_append, List.length_replicate, List.length_nil]
    omega
  · split
    · simp only [List.length_append, List.length_replicate, List.length_nil]
      omega
    · simp only [List.length_append, List.length_replicate, List.length_nil]
      omega
theorem conv_pt (P : ByteArray) (x k : Nat) (pr : Int) (c : Nat) (w : World) (hb : x < 18446744073709551616) (hm : mag x < 9218868437227405312) (hP : P.size = k) (hk : k ≤ 100) (hk0 : 0 < k) (hp : partF P 0 = some ⟨false, false, false, false, false, 0, pr, c, false, false, k⟩) (hc : chkB 0 pr c = true) (hv : vNum.contains c.toUInt8 = true) (hw : vWhole.contains c.toUInt8 = false) (hc2 : c ≠ 37)
    (h : wholeB x 4846369599423283200 = false) (hT : PowTab w) :
    Calls Tryz.prog 71 #[.float .f64 x, .string P] w fun e w' => e = .returned (.string ⟨(pointT false false false false false 0 pr c x).toArray⟩) ∧ Below w.heap.size w w' := by
  subst hP
  obtain ⟨d0, d1, d2, d3⟩ := chk_bd hc
  have hlen : (pointT false false false false false 0 pr c x).length ≤ 100000 := pointT_len w hm d0 d1 d2 d3
  exact conv_one P _ x false false false false false 0 pr c w hb (by omega) hk0 hp hc2 h (odd_none hm) (fun W hW => number_point false false false false false 0 pr c x W hb hm hc hv hw hW) (by rw [← ba_len]; exact Nat.le_trans hlen (by omega)) hT
/-- What Conv answers by "%.6g". -/
noncomputable def conv6 (x : Nat) : List UInt8 := if wholeB x 4846369599423283200 = true then wholeT x else match oddL x with
  | some n => n
  | none => pointT false false false false false 0 6 103 x
theorem mag_odd {x : Nat} (hb : x < 18446744073709551616) (h : oddL x = none) : mag x < 9218868437227405312 := by
  rcases Nat.lt_or_ge (mag x) 9218868437227405312 with h1 | h1
  · exact h1
  · exfalso
    unfold oddL at h
    rcases Nat.lt_or_ge 9218868437227405312 (mag x) with h2 | h2
    · rw [nan_yes h2, if_pos rfl] at h
      cases h
    · rw [nan_no (by omega), if_neg (by decide)] at h
      have e : x = 9218868437227405312 ∨ x = 18442240474082181120 := by unfold mag at h1 h2; omega
      rcases e with rfl | rfl
      · exact absurd h (by decide)
      · exact absurd h (by decide)
theorem conv_6g (x : Nat) (w : World) (hb : x < 18446744073709551616) (hT : PowTab w) :
    Calls Tryz.prog 71 #[.float .f64 x, .string p6g] w fun e w' => e = .returned (.string ⟨(conv6 x).toArray⟩) ∧ Below w.heap.size w w' := by
  unfold conv6
  cases hw : wholeB x 4846369599423283200 with
  | true => rw [if_pos rfl]; exact conv_whole x _ w hb hw hT
  | false =>
    rw [if_neg (by decide)]
    cases ho : oddL x with
    | some n => exact conv_odd x _ n w hb hw ho
    | none => exact conv_pt p6g x 4 6 103 w hb (mag_odd hb ho) rfl (by omega) (by omega) part_6g (by decide) (by decide) (by decide) (by decide) hw hT
end Go.Proofs.YtbbbdcohkfijoaaGreatDoor

namespace Go.Proofs.YtbbbdcohkfijoaaGreatDoor
open Go.RowKit Go.Lib

theorem f7 : fw 7 = 4619567317775286272 := by decide +kernel
theorem f3 : fw 3 = 4613937818241073152 := by decide +kernel
theorem f1 : fw 1 = 4607182418800017408 := by decide +kernel
end Go.Proofs.YtbbbdcohkfijoaaGreatDoor

namespace Go.Proofs.YtbbbdcohkfijoaaGreatDoor
open Go.RowKit Go.Lib

set_option maxRecDepth 100000 in
theorem clone_str (s : ByteArray) (w : World) (hs : s.size ≤ 140737488355328) : Calls Tryz.prog 123 #[.string s] w fun e w' => e = .returned (.string s) ∧ Below w.heap.size w w' := by
  have C := Lib.hid (Tryz.stringslite_Clone s w (by omega))
  go_enter Tryz.func123, Tryz.ntmps123
  go_wp2_with fail
  refine C.out.mono ?_
  rintro e w' ⟨rfl, hB⟩
  go_wp2_with fail
  go_ret
  exact ⟨rfl, hB⟩
end Go.Proofs.YtbbbdcohkfijoaaGreatDoor

namespace Go.Proofs.YtbbbdcohkfijoaaGreatDoor
open Go.RowKit Go.Lib

/-- The bytes of a code. -/
def textB (c : Int) : ByteArray :=
  if 1114112 ≤ c ∧ c < 1114368 then ⟨#[UInt8.ofNat (c - 1114112).toNat]⟩ else if Lib.validRune c then Utf8.encode c else ⟨#[]⟩
end Go.Proofs.YtbbbdcohkfijoaaGreatDoor

namespace Go.Proofs.YtbbbdcohkfijoaaGreatDoor
open Go.Lib

/-- The character at byte i of s: its code and how many bytes it has. -/
def chN (n b0 b1 b2 b3 : Nat) : Nat × Nat := if decodeN n b0 b1 b2 b3 = (65533, 1) then (1114112 + b0, 1) else decodeN n b0 b1 b2 b3
def chS (s : ByteArray) (i : Nat) : Nat × Nat := chN (s.size - i) (s.get! i).toNat (s.get! (i + 1)).toNat (s.get! (i + 2)).toNat (s.get! (i + 3)).toNat

/-- What Next answers. -/
def nextZ (s : ByteArray) (i : Int) (b : Bool) : Nat × Nat :=
  if i < 0 ∨ (s.size : Int) ≤ i then (0, 0) else if b then ((s.get! i.toNat).toNat, 1) else chS s i.toNat


theorem get!_lt (s : ByteArray) (i : Nat) (h : i < s.size) : s[i] = s.get! i := (Utf8W.get!_of_lt s i h).symm

theorem get!_lt256 (s : ByteArray) (i : Nat) : (s.get! i).toNat < 256 := by
  have := UInt8.toNat_lt (s.get! i)
  omega
/-! What 'size' reckons is what the library decodes. -/
end Go.Proofs.YtbbbdcohkfijoaaGreatDoor

namespace Go.Proofs.YtbbbdcohkfijoaaGreatDoor
open Go.RowKit Go.Lib

/-- Past the ends of the string. -/
theorem nextZ_out (s : ByteArray) (i : Int) (b : Bool) (h : i < 0 ∨ (s.size : Int) ≤ i) : nextZ s i b = (0, 0) := if_pos h
theorem nextZ_in (s : ByteArray) (i : Nat) (b : Bool) (h : i < s.size) : nextZ s (i : Int) b = if b then ((s.get! i).toNat, 1) else chS s i := by
  unfold nextZ; rw [if_neg (by omega)]; rfl

theorem decodeGo_tail (s : ByteArray) (i : Nat) (h : i < s.size) : decodeGo (s.extract i s.size) = decodeN (s.size - i) (s.get! i).toNat (s.get! (i + 1)).toNat (s.get! (i + 2)).toNat (s.get! (i + 3)).toNat := by
  unfold decodeGo
  rw [if_neg (by rw [ByteArray.size_extract]; omega), decode_at, tail_get!, tail_get!, tail_get!, tail_get!, ByteArray.size_extract, Nat.min_self, Nat.sub_zero]
  simp only [Nat.add_zero, Nat.zero_add]
end Go.Proofs.YtbbbdcohkfijoaaGreatDoor

namespace Go.Proofs.YtbbbdcohkfijoaaGreatDoor
open Go.RowKit Go.Lib

theorem decodeN_lt (n b0 b1 b2 b3 : Nat) : (decodeN n b0 b1 b2 b3).1 ≤ 1114111 ∧ 1 ≤ (decodeN n b0 b1 b2 b3).2 ∧ (decodeN n b0 b1 b2 b3).2 ≤ 4 := by
  unfold decodeN
  repeat' split
  all_goals (simp only; omega)

set_option maxRecDepth 100000 in
set_option maxHeartbeats 1000000 in
theorem next_any (s : ByteArray) (i : Int) (b : Bool) (w : World) (hT : Utf8Tabs 4 5 w) (_hs : s.size ≤ 9223372036854775807) :
    Calls Tryz.prog 322 #[.string s, .int .i64 i, .bool b] w fun e w' => e = .returned (.tuple #[.int .i64 (nextZ s i b).1, .int .i64 (nextZ s i b).2]) ∧ Below w.heap.size w w' := by
  by_cases h0 : i < 0
  · rw [nextZ_out s i b (.inl h0)]
    clear hT
    go_enter Tryz.func322, Tryz.ntmps322
    go_wp2
    go_ret2
    exact ⟨rfl, Below.refl _ _⟩
  by_cases h1 : (s.size : Int) ≤ i
  · rw [nextZ_out s i b (.inr h1)]
    clear hT
    go_enter Tryz.func322, Tryz.ntmps322
    go_wp2
    go_ret2
    exact ⟨rfl, Below.refl _ _⟩
  obtain ⟨k, rfl⟩ : ∃ k : Nat, i = k := ⟨i.toNat, by omega⟩
  have hk : k < s.size := by omega
  have gk := get!_lt s k hk
  rw [nextZ_in s k b hk]
  cases b
  · have cD := Tryz.utf8_DecodeRuneInString (s.extract k s.size) w hT
    rw [decodeGo_tail s k hk] at cD
    have hd := decodeN_lt (s.size - k) (s.get! k).toNat (s.get! (k + 1)).toNat (s.get! (k + 2)).toNat (s.get! (k + 3)).toNat
    simp only [Bool.false_eq_true, if_false]
    unfold chS chN
    obtain ⟨R, hR⟩ : ∃ R, (decodeN (s.size - k) (s.get! k).toNat (s.get! (k + 1)).toNat (s.get! (k + 2)).toNat (s.get! (k + 3)).toNat).1 = R := ⟨_, rfl⟩
    obtain ⟨K, hK⟩ : ∃ K, (decodeN (s.size - k) (s.get! k).toNat (s.get! (k + 1)).toNat (s.get! (k + 2)).toNat (s.get! (k + 3)).toNat).2 = K := ⟨_, rfl⟩
    have hRK : decodeN (s.size - k) (s.get! k).toNat (s.get! (k + 1)).toNat (s.get! (k + 2)).toNat (s.get! (k + 3)).toNat = (R, K) := by rw [← hR, ← hK]
    rw [hRK] at cD hd ⊢
    simp only at hd
    obtain ⟨hd1, hd2, hd3⟩ := hd
    clear hR hK hRK hT
    have hb := get!_lt256 s k
    rw [← gk] at hb ⊢
    have GK := Lib.hid gk; clear gk
    have CD := Lib.hid cD; clear cD
    by_cases hr : R = 65533
    · by_cases hK1 : K = 1
      · subst hr; subst hK1
        rw [if_pos rfl]
        go_enter Tryz.func322, Tryz.ntmps322
        go_wp2_with (go_at_call 225; refine CD.out.mono ?_; rintro e w' ⟨rfl, hb⟩)
        go_ret2
        exact ⟨by simp, hb⟩
      · rw [if_neg (by simp; omega)]
        subst hr
        have hK1' : ((K : Int) == 1) = false := by simp; omega
        go_enter Tryz.func322, Tryz.ntmps322
        go_wp2_with (go_at_call 225; refine CD.out.mono ?_; rintro e w' ⟨rfl, hb⟩)
        go_ret2
        exact ⟨rfl, hb⟩
    · rw [if_neg (by simp; omega)]
      have hr' : ((R : Int) == 65533) = false := by simp; omega
      go_enter Tryz.func322, Tryz.ntmps322
      go_wp2_with (go_at_call 225; refine CD.out.mono ?_; rintro e w' ⟨rfl, hb⟩)
      go_ret2
      exact ⟨rfl, hb⟩
  · simp only [if_true]
    have hb := get!_lt256 s k
    rw [← gk] at hb ⊢
    have GK := Lib.hid gk; clear gk hT
    go_enter Tryz.func322, Tryz.ntmps322
    go_wp2
    go_ret2
    exact ⟨by simp, Below.refl _ _⟩

end Go.Proofs.YtbbbdcohkfijoaaGreatDoor

namespace Go.Proofs.YtbbbdcohkfijoaaGreatDoor
open Go.Lib

/-- How many bytes the character at a place has (0 past the end). -/
def wid (s : ByteArray) (b : Bool) (i : Nat) : Nat := (nextZ s (i : Int) b).2
def uCod (s : ByteArray) (b : Bool) (i : Nat) : Nat := (nextZ s (i : Int) b).1
/-- The place of the k-th character (from 0 on), or the length. -/
def pl (s : ByteArray) (b : Bool) : Nat → Nat
  | 0 => 0
  | k + 1 => pl s b k + wid s b (pl s b k)

theorem nextZ_eq (s : ByteArray) (b : Bool) (i : Nat) : nextZ s (i : Int) b = (uCod s b i, wid s b i) := rfl
theorem wid_out (s : ByteArray) (b : Bool) (i : Nat) (h : s.size ≤ i) : wid s b i = 0 := by
  unfold wid nextZ; rw [if_pos (by omega)]
theorem decodeN_wid (n b0 b1 b2 b3 : Nat) (hn : 1 ≤ n) : 1 ≤ (decodeN n b0 b1 b2 b3).2 ∧ (decodeN n b0 b1 b2 b3).2 ≤ n := by
  unfold decodeN
  repeat' split
  all_goals (simp only; omega)
theorem chN_wid (n b0 b1 b2 b3 : Nat) : (chN n b0 b1 b2 b3).2 = (decodeN n b0 b1 b2 b3).2 := by
  unfold chN
  split
  · rename_i h; rw [h]
  · rfl
theorem wid_byte (s : ByteArray) (i : Nat) (h : i < s.size) : wid s true i = 1 := by
  unfold wid nextZ; rw [if_neg (by omega)]; rfl
theorem wid_char (s : ByteArray) (i : Nat) (h : i < s.size) : wid s false i = (decodeN (s.size - i) (s.get! i).toNat (s.get! (i + 1)).toNat (s.get! (i + 2)).toNat (s.get! (i + 3)).toNat).2 := by
  unfold wid nextZ; rw [if_neg (by omega)]; exact chN_wid _ _ _ _ _
theorem wid_in (s : ByteArray) (b : Bool) (i : Nat) (h : i < s.size) : 1 ≤ wid s b i ∧ i + wid s b i ≤ s.size := by
  cases b
  · rw [wid_char s i h]
    have := decodeN_wid (s.size - i) (s.get! i).toNat (s.get! (i + 1)).toNat (s.get! (i + 2)).toNat (s.get! (i + 3)).toNat (by omega)
    omega
  · rw [wid_byte s i h]; omega
theorem pl_le (s : ByteArray) (b : Bool) : ∀ k, pl s b k ≤ s.size
  | 0 => Nat.zero_le _
  | k + 1 => by
    have ih := pl_le s b k
    show pl s b k + wid s b (pl s b k) ≤ s.size
    by_cases h : pl s b k < s.size
    · exact (wid_in s b _ h).2
    · rw [wid_out s b _ (by omega)]; omega
theorem pl_succ (s : ByteArray) (b : Bool) (k : Nat) : pl s b (k + 1) = pl s b k + wid s b (pl s b k) := rfl
theorem pl_end (s : ByteArray) (b : Bool) (k : Nat) (h : pl s b k = s.size) : ∀ j, k ≤ j → pl s b j = s.size := by
  intro j hj
  obtain ⟨d, rfl⟩ := Nat.exists_eq_add_of_le hj
  induction d with
  | zero => exact h
  | succ d ih => rw [← Nat.add_assoc, pl_succ, ih (by omega), wid_out s b _ (by omega)]; rfl
theorem pl_ge (s : ByteArray) (b : Bool) : ∀ k, k ≤ pl s b k ∨ pl s b k = s.size
  | 0 => .inl (Nat.zero_le _)
  | k + 1 => by
    rcases Nat.lt_or_ge (pl s b k) s.size with h | h
    · rcases pl_ge s b k with h1 | h1
      · left; rw [pl_succ]; have := (wid_in s b _ h).1; omega
      · omega
    · right; exact pl_end s b k (by have := pl_le s b k; omega) _ (by omega)
theorem pl_size (s : ByteArray) (b : Bool) : pl s b s.size = s.size := by
  rcases pl_ge s b s.size with h | h
  · have := pl_le s b s.size; omega
  · exact h
/-- How many characters. -/
def cnt (s : ByteArray) (b : Bool) : Nat := (List.range s.size).countP fun k => decide (pl s b k < s.size)
theorem countP_range (p : Nat → Bool) : ∀ N c, c ≤ N → (∀ k, k < N → (p k = true ↔ k < c)) → (List.range N).countP p = c
  | 0, c, hc, _ => by simp; omega
  | N + 1, c, hc, h => by
    rw [List.range_succ, List.countP_append]
    by_cases hN : c ≤ N
    · rw [countP_range p N c hN (fun k hk => h k (by omega))]
      have := (h N (by omega))
      have hp : p N = false := by
        cases hpn : p N
        · rfl
        · exact absurd (this.1 hpn) (by omega)
      simp [hp]
    · obtain rfl : c = N + 1 := by omega
      rw [countP_range p N N (Nat.le_refl _) (fun k hk => by rw [h k (by omega)]; omega)]
      have hp := (h N (by omega)).2 (by omega)
      simp [hp]
theorem exists_cnt (s : ByteArray) (b : Bool) : ∃ c, c ≤ s.size ∧ ∀ k, pl s b k < s.size ↔ k < c := by
  have : ∀ N, (∀ k, pl s b k < s.size → k < N) → ∃ c, c ≤ N ∧ ∀ k, pl s b k < s.size ↔ k < c := by
    intro N
    induction N with
    | zero => intro h; exact ⟨0, Nat.le_refl _, fun k => ⟨h k, fun hk => by omega⟩⟩
    | succ N ih =>
      intro h
      by_cases hN : pl s b N < s.size
      · refine ⟨N + 1, Nat.le_refl _, fun k => ⟨h k, fun hk => ?_⟩⟩
        by_cases hlt : pl s b k < s.size
        · exact hlt
        · exact absurd (pl_end s b k (by have := pl_le s b k; omega) N (by omega)) (by omega)
      · obtain ⟨c, hc, hall⟩ := ih (fun k hk => by
          have := h k hk
          by_cases e : k = N
          · subst e; exact absurd hk hN
          · omega)
        exact ⟨c, by omega, hall⟩
  refine this s.size (fun k hk => ?_)
  by_cases h : k < s.size
  · exact h
  · exact absurd (pl_end s b s.size (pl_size s b) k (by omega)) (by omega)
theorem cnt_spec (s : ByteArray) (b : Bool) (k : Nat) : pl s b k < s.size ↔ k < cnt s b := by
  obtain ⟨c, hc, hall⟩ := exists_cnt s b
  have : cnt s b = c := countP_range _ _ _ hc (fun k _ => by rw [decide_eq_true_eq]; exact hall k)
  rw [this]; exact hall k
theorem cnt_le (s : ByteArray) (b : Bool) : cnt s b ≤ s.size := by
  unfold cnt
  have := List.countP_le_length (p := fun k => decide (pl s b k < s.size)) (l := List.range s.size)
  simpa using this
theorem pl_cnt (s : ByteArray) (b : Bool) : pl s b (cnt s b) = s.size := by
  have h := (not_congr (cnt_spec s b (cnt s b))).2 (by omega)
  have := pl_le s b (cnt s b)
  omega
theorem cnt_unique (s : ByteArray) (b : Bool) (k : Nat) (h : pl s b k = s.size) (hl : ∀ j, j < k → pl s b j < s.size) : cnt s b = k := by
  have h1 := (not_congr (cnt_spec s b k)).1 (by omega)
  by_cases hk : k = 0
  · omega
  · have h2 := (cnt_spec s b (k - 1)).1 (hl (k - 1) (by omega)); omega
theorem pl_mono (s : ByteArray) (b : Bool) (j k : Nat) (h : j ≤ k) : pl s b j ≤ pl s b k := by
  obtain ⟨d, rfl⟩ := Nat.exists_eq_add_of_le h
  induction d with
  | zero => exact Nat.le_refl _
  | succ d ih => rw [← Nat.add_assoc, pl_succ]; have := ih (by omega); omega
theorem pl_byte (s : ByteArray) : ∀ k, k ≤ s.size → pl s true k = k
  | 0, _ => rfl
  | k + 1, h => by rw [pl_succ, pl_byte s k (by omega), wid_byte s k (by omega)]
theorem cnt_byte (s : ByteArray) : cnt s true = s.size :=
  cnt_unique s true s.size (pl_byte s _ (Nat.le_refl _)) (fun j hj => by rw [pl_byte s j (by omega)]; exact hj)
/-- What the library counts. -/
theorem runeCountFrom_pl (s : ByteArray) : ∀ f k, s.size ≤ pl s false k + f → runeCountFrom s f (pl s false k) = cnt s false - k
  | 0, k, h => by
    have := (not_congr (cnt_spec s false k)).1 (by omega)
    show 0 = _
    omega
  | f + 1, k, h => by
    unfold runeCountFrom
    by_cases hk : pl s false k < s.size
    · rw [if_pos hk]
      have e : pl s false k + (Utf8.decode s (pl s false k)).2 = pl s false (k + 1) := by
        rw [pl_succ, wid_char s _ hk, decode_at]
      have h1 := (wid_in s false _ hk).1
      rw [e, runeCountFrom_pl s f (k + 1) (by rw [pl_succ]; omega)]
      have := (cnt_spec s false k).1 hk
      omega
    · rw [if_neg hk]
      have := (not_congr (cnt_spec s false k)).1 hk
      omega
theorem runeCount_cnt (s : ByteArray) : runeCount s = cnt s false :=
  runeCountFrom_pl s s.size 0 (by omega)
end Go.Proofs.YtbbbdcohkfijoaaGreatDoor

namespace Go.Proofs.YtbbbdcohkfijoaaGreatDoor
open Go.RowKit Go.Lib Go.Shelf
attribute [local go_sem] Oper.semAt_some

/-- These blocks lie as they lay. -/
def KeepsAt (bs : List Nat) (W W' : World) : Prop := ∀ c ∈ bs, W'.heap[c]? = W.heap[c]?
theorem KeepsAt.refl (bs : List Nat) (W : World) : KeepsAt bs W W := fun _ _ => rfl
theorem KeepsAt.trans {bs : List Nat} {A B C : World} (h : KeepsAt bs A B) (k : KeepsAt bs B C) : KeepsAt bs A C := fun c hc => (k c hc).trans (h c hc)
theorem KeepsAt.of_below {bs : List Nat} {n : Nat} {W W' : World} (h : Below n W W') (hlt : ∀ c ∈ bs, c < n) : KeepsAt bs W W' := fun c hc => h.block c (hlt c hc)
theorem KeepsAt.of_grown {bs : List Nat} {row : Option Nat} {W W' : World} (h : W.grownBy W' row) (hlt : ∀ c ∈ bs, c < W.heap.size ∧ some c ≠ row) : KeepsAt bs W W' := fun c hc => h.block c (hlt c hc).1 (hlt c hc).2
theorem KeepsAt.putObj {bs : List Nat} (n : Nat) (hlt : ∀ c ∈ bs, c < n) (W : World) (l : Nat) (o' : Obj) (hl : n ≤ l) : KeepsAt bs W (W.putObj l o') :=
  fun c hc => World.putObj_heap_other (by have := hlt c hc; omega)
theorem KeepsAt.cell {bs : List Nat} {W W' : World} (h : KeepsAt bs W W') {c : Nat} (hc : c ∈ bs) (o : Nat) : W'.cell? ⟨c, o, none⟩ = W.cell? ⟨c, o, none⟩ := by
  simp [World.cell?, h c hc]
theorem grown_of_below {W W' : World} (h : Below W.heap.size W W') : W.grownBy W' none :=
  ⟨h.os, h.tape, h.output, h.size, fun k hk _ => h.block k hk⟩
theorem tabs_keeps {g h : Nat} {W W' : World} (hT : Utf8Tabs g h W) (hk : KeepsAt [g, h] W W') : Utf8Tabs g h W' :=
  ⟨fun c hc => (hk.cell (by simp) c).trans (hT.1 c hc), fun i hi => ⟨(hk.cell (by simp) _).trans (hT.2 i hi).1, (hk.cell (by simp) _).trans (hT.2 i hi).2⟩⟩
/-- A cell that is there lies in a block below the heap's size. -/
theorem lt_of_cell {W : World} {c o : Nat} {v : Value} (h : W.cell? ⟨c, o, none⟩ = some v) : c < W.heap.size := by
  by_cases hc : c < W.heap.size
  · exact hc
  · simp [World.cell?, Array.getElem?_eq_none (Nat.le_of_not_lt hc)] at h
theorem tabs_lt {g h : Nat} {W : World} (hT : Utf8Tabs g h W) : g < W.heap.size ∧ h < W.heap.size := ⟨lt_of_cell (hT.1 0 (by decide)), lt_of_cell (hT.2 0 (by decide)).1⟩
theorem tabs_below {g h n : Nat} {W W' : World} (hT : Utf8Tabs g h W) (hb : Below n W W') (hn : W.heap.size ≤ n) : Utf8Tabs g h W' :=
  tabs_keeps hT (KeepsAt.of_below hb (fun c hc => by have := tabs_lt hT; simp at hc; rcases hc with rfl | rfl <;> omega))

/-- What All hands over at the k-th character. -/
abbrev chEnc (s : ByteArray) (b : Bool) (k : Nat) : Array Value := #[.int .i64 (pl s b k), .int .i64 (uCod s b (pl s b k))]

set_option maxHeartbeats 1000000 in
theorem all_any (s : ByteArray) (b : Bool) (w : World) :
    Calls Tryz.prog 281 #[.string s, .bool b] w fun e w' => e = .returned (.func (.func 321) #[] #[.pointer (some ⟨w.heap.size, 0, none⟩), .pointer (some ⟨w.heap.size + 1, 0, none⟩)]) ∧
      (w.alloc (.cells #[.string s] 9)).alloc (.cells #[.bool b] 4) = w' := by
  have hmf : ∀ (fn : Fn) (first cap : Array Value) (w : World), (Instr.makeFunc fn first cap).run Tryz.prog w = .ok (.func fn first cap) w := fun _ _ _ _ => rfl
  go_enter Tryz.func281, Tryz.ntmps281
  go_wp2
  go_ret
  exact ⟨rfl, rfl⟩

set_option maxRecDepth 100000 in
set_option maxHeartbeats 1000000 in
/-- THE ITERATOR: FOR EVERY LOOP BODY THAT KEEPS THE TWO CAPTURED VARIABLES AND THE LIBRARY's TABLES. -/
theorem all_stops (n : Nat) (hn : 1 ≤ n) (s : ByteArray) (b : Bool) (B1 B2 : Nat) (w : World) (hs : s.size ≤ 9223372036854775807 - 8)
    (h1 : w.cell? ⟨B1, 0, none⟩ = some (.string s)) (h2 : w.cell? ⟨B2, 0, none⟩ = some (.bool b)) (hT : Utf8Tabs 4 5 w) :
    SeqStopsK Fence.wide n Tryz.prog 321 #[.pointer (some ⟨B1, 0, none⟩), .pointer (some ⟨B2, 0, none⟩)] (chEnc s b) (KeepsAt [4, 5, B1, B2])
      (fun xs => xs = List.range (cnt s b)) (fun pre => ∃ k, k ≤ cnt s b ∧ pre = List.range k) (cnt s b) w := fun l J Jx W hW hJ hJx hY h0 => by
  have hK0 : KeepsAt [4, 5, B1, B2] w W := KeepsAt.of_below hW (fun c hc => by
    have := tabs_lt hT; have := lt_of_cell h1; have := lt_of_cell h2
    simp at hc; rcases hc with rfl | rfl | rfl | rfl <;> omega)
  refine callsIn_of_wp Tryz.func321 rfl trivial ?_ rfl
  simp only [Tryz.ntmps321, List.size_toArray, List.length_cons, List.length_nil, Nat.reduceAdd, Nat.reduceSub, Array.replicate_succ, Array.replicate_zero, List.push_toArray, List.append_toArray, List.nil_append, List.cons_append]
  gi_wp2
  gi_loopw [4] (fun p wr => ∃ k, k ≤ cnt s b ∧ p = .int .i64 (pl s b k) ∧ KeepsAt [4, 5, B1, B2] w wr ∧ J (List.range k) wr)
    (fun p _ => s.size - (RowKit.intOf p).toNat)
  case atStart =>
    exact ⟨0, Nat.zero_le _, rfl, hK0, h0⟩
  case round =>
    obtain ⟨k, hk, rfl, hKw, hJs⟩ := hrel
    have c1 : wr.cell? ⟨B1, 0, none⟩ = some (.string s) := (hKw.cell (by simp) 0).trans h1
    have c2 : wr.cell? ⟨B2, 0, none⟩ = some (.bool b) := (hKw.cell (by simp) 0).trans h2
    have hTr : Utf8Tabs 4 5 wr := tabs_keeps hT (fun c hc => hKw c (by simp at hc ⊢; omega))
    have hple := pl_le s b k
    by_cases hlt : k < cnt s b
    · have hplt := (cnt_spec s b k).2 hlt
      have cN := next_any s (pl s b k : Nat) b wr hTr (by omega)
      rw [nextZ_eq] at cN
      have hw1 := (wid_in s b _ hplt).1
      have hw2 := (wid_in s b _ hplt).2
      obtain ⟨C, hC⟩ : ∃ C, uCod s b (pl s b k) = C := ⟨_, rfl⟩
      obtain ⟨S, hS⟩ : ∃ S, wid s b (pl s b k) = S := ⟨_, rfl⟩
      obtain ⟨p, hp⟩ : ∃ p, pl s b k = p := ⟨_, rfl⟩
      have hp1 : pl s b (k + 1) = p + S := by rw [pl_succ, hS, hp]
      have hY' := hY (List.range k) k
      dsimp only [chEnc] at hY'
      rw [hC, hp] at hY'
      rw [hC, hS] at cN
      rw [hS] at hw1 hw2
      rw [hp] at hplt hple hw2 cN
      rw [hp]
      have CN := Lib.hid cN; clear cN
      have HY := Lib.hid hY'; clear hY' hY
      have HC := Lib.hid hC; clear hC
      have HS := Lib.hid hS; clear hS
      have HP := Lib.hid hp; clear hp
      have HP1 := Lib.hid hp1; clear hp1
      have HT := Lib.hid hTr; clear hTr hT
      have HKW := Lib.hid hKw; clear hKw hK0
      gi_wp2_with fail
      refine ⟨trivial, (callsIn_wide.2 CN.out).mono ?_⟩
      rintro e W3 ⟨rfl, hb3⟩
      have c13 : W3.cell? ⟨B1, 0, none⟩ = some (.string s) := (hb3.cell (p := ⟨B1, 0, none⟩) (lt_of_cell c1)).trans c1
      have c23 : W3.cell? ⟨B2, 0, none⟩ = some (.bool b) := (hb3.cell (p := ⟨B2, 0, none⟩) (lt_of_cell c2)).trans c2
      have hJ3 : J (List.range k) W3 := hJ _ _ _ none hJs (grown_of_below hb3) (fun r e => by cases e)
      have hK3 : KeepsAt [4, 5, B1, B2] w W3 := HKW.out.trans (KeepsAt.of_below hb3 (fun c hc => by
        have := tabs_lt HT.out; have := lt_of_cell c1; have := lt_of_cell c2
        simp at hc; rcases hc with rfl | rfl | rfl | rfl <;> omega))
      obtain ⟨fn, tmps, assign, body, hy, hR⟩ := HY.out W3 hJ3 (by simp; omega)
      have HK3 := Lib.hid hK3; clear hK3
      gi_wp2
      refine hR.mono ?_
      rintro e W4 (⟨rfl, hJ4, hk4⟩ | ⟨rfl, hJx4⟩)
      · have hK4 := Lib.hid (HK3.out.trans hk4); clear hk4
        gi_wp2
        go_roundw
        case rel => exact ⟨k + 1, by omega, by rw [HP1.out]; go_num, hK4.out, by rw [List.range_succ]; exact hJ4⟩
        case measure => simp [RowKit.intOf]; omega
      · gi_wp2
        refine bodyPost_ret (results_none rfl _ _ _) rfl ?_
        exact ⟨⟨_, rfl⟩, .inr ⟨List.range (k + 1), ⟨k + 1, by omega, rfl⟩, by rw [List.range_succ]; exact hJx4⟩⟩
    · obtain rfl : k = cnt s b := by omega
      have hpe := pl_cnt s b
      rw [hpe]
      clear hpe hY hple
      gi_wp2
      go_end0
      exact ⟨⟨_, rfl⟩, .inl ⟨_, rfl, hJs⟩⟩
end Go.Proofs.YtbbbdcohkfijoaaGreatDoor

namespace Go.Proofs.YtbbbdcohkfijoaaGreatDoor
open Go.RowKit Go.Lib Go.Shelf
attribute [local go_sem] Oper.semAt_some

set_option maxHeartbeats 400000 in
theorem len_any (s : ByteArray) (b : Bool) (w : World) (hs : s.size ≤ 9223372036854775807 - 8) :
    Calls Tryz.prog 124 #[.string s, .bool b] w fun e w' => e = .returned (.int .i64 (cnt s b)) ∧ Below w.heap.size w w' := by
  cases b
  · have cR := Tryz.utf8_RuneCountInString s w (by omega)
    rw [runeCount_cnt] at cR
    have CR := Lib.hid cR; clear cR
    go_enter Tryz.func124, Tryz.ntmps124
    go_wp2_with (go_at_call 183; refine CR.out.mono ?_; rintro e w' ⟨rfl, pos, rfl⟩)
    go_ret
    exact ⟨rfl, (Below.refl _ _).alloc (Nat.le_refl _) _⟩
  · rw [cnt_byte]
    go_enter Tryz.func124, Tryz.ntmps124
    go_wp2
    go_ret
    exact ⟨rfl, Below.refl _ _⟩

/-- What stands for the k-th character when its code is changed by f. -/
def piece (s : ByteArray) (b : Bool) (f : Int → Int) (k : Nat) : List UInt8 :=
  if f (uCod s b (pl s b k)) = uCod s b (pl s b k) then (s.data.toList.drop (pl s b k)).take (wid s b (pl s b k)) else (textB (f (uCod s b (pl s b k)))).data.toList
end Go.Proofs.YtbbbdcohkfijoaaGreatDoor

namespace Go.Proofs.YtbbbdcohkfijoaaGreatDoor
open Go.RowKit Go.Lib Go.Shelf
attribute [local go_sem] Oper.semAt_some

/-- Six new blocks. -/
theorem push6 (h : Array Obj) (a b c d e f : Obj) (H : Array Obj) (hH : H = (((((h.push a).push b).push c).push d).push e).push f) :
    H.size = h.size + 6 ∧ H[h.size]? = some a ∧ H[h.size + 1]? = some b ∧ H[h.size + 1 + 1]? = some c ∧ H[h.size + 1 + 1 + 1]? = some d ∧ H[h.size + 4]? = some e ∧ H[h.size + 4 + 1]? = some f := by
  subst hH
  simp only [Array.getElem?_push, Array.size_push]
  refine ⟨trivial, ?_, ?_, ?_, ?_, ?_, ?_⟩
  all_goals
    repeat' split
  all_goals first | rfl | (exfalso; omega) | simp_all

end Go.Proofs.YtbbbdcohkfijoaaGreatDoor

namespace Go.Proofs.YtbbbdcohkfijoaaGreatDoor
open Go.RowKit Go.Lib

/-- The place of a number: and is there one? -/
def placeZ (s : ByteArray) (b : Bool) (n : Int) : Int × Bool := if 1 ≤ n ∧ n ≤ cnt s b + 1 then ((pl s b (n - 1).toNat : Nat), true) else (0, false)
/-- The part between two numbers. -/
def subB (s : ByteArray) (b : Bool) (i j : Int) : ByteArray :=
  if min j (cnt s b + 1) ≤ max i 1 then ⟨#[]⟩ else s.extract (pl s b (max i 1 - 1).toNat) (pl s b (min j (cnt s b + 1) - 1).toNat)
end Go.Proofs.YtbbbdcohkfijoaaGreatDoor
