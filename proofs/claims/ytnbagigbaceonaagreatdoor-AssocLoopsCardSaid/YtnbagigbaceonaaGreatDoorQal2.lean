/- Several texts in one (Words for memory: a queue of items; Len, Less, Swap; Contracts of layer 7: the heap's up and down over a queue; Contracts of layer 7: an item pushed, an item popped; Contracts of layer 7: the orders by their names; Plain: numbers of digits of any base, the lowest digit first; Plain: the guess of a limb of the quotient, and a round of the long division; Words for memory: a row of numbers within a block that may be written; a slice that is read; Words for memory: a row of the call's own, of numbers; Contracts of layer 7: Order, whatever the order is; Contracts of layer 7: how items are made ready, and how they are compared; Contracts of layer 3: fractions, timesTwo; Plain: decimal texts of numbers; Contracts of layer 3: timesTen; Contracts of layer 3: floats by their bits: Abs, IsNaN, IsInf, Parts). -/
import Derived.Laws.EntriesVeiled
import Derived.BigRegion
import Derived.BigQuiet
import Derived.Deep.QuietTactic
import Derived.Deep.RegionHeld3
import Derived.Deep.RegionLaw
import Derived.Maps.AppendAt
import Derived.WalkSpells
import Derived.LoopTactic
import Derived.Laws.MakeOwn
import Derived.Maps.OwnSet
import Derived.Maps.OwnOps
import Derived.Test.YtnbagigbaceonaaGreatDoorShelf
import Derived.KernelRfl
import Derived.WalkSmall
import Derived.WalkKit
import Derived.ProofKit
import Derived.Below
import Derived.Lib.Hide
import Derived.Laws.OwnMore
import Derived.Lib.SmallJoins
import Derived.Test.YtnbagigbaceonaaGreatDoorProg
import Derived.Laws.AppendOwnNone
import Derived.RangeFuncBox
import Derived.IntWalk
import Derived.Laws.CopyOwn
import Derived.Outline
import Derived.Lib.BitFns
import Derived.Deep.RegionWith
import Derived.Laws.BitsAllLaws
import Derived.RegionTactic
import Derived.ChangeAlike
import Derived.Lib.LazyBuf
import Derived.Lib.BufferRead
import Derived.WalkLawsBesides
import Derived.Laws.Cover2
import Derived.Laws.Externs
import Derived.Laws.BitsAll
import Derived.Test.YtnbagigbaceonaaGreatDoorQal1
namespace Go.Proofs.YtnbagigbaceonaaGreatDoor
open Go.RowKit Go.Lib

abbrev iptr (b : Nat) : Value := .pointer (some ⟨b, 0, none⟩)
abbrev fval (f : FuncId) : Value := .func (.func f) #[] #[]
/-- The items' pointers, place by place. -/
def ptrs (p : Nat → Nat) (n : Nat) : List Value := (List.range n).map fun k => iptr (p k)
theorem ptrs_len (p : Nat → Nat) (n : Nat) : (ptrs p n).length = n := by unfold ptrs; rw [List.length_map, List.length_range]
theorem ptrs_at (p : Nat → Nat) {n k : Nat} (h : k < n) : (ptrs p n)[k]? = some (iptr (p k)) := by
  unfold ptrs
  rw [List.getElem?_map, List.getElem?_range h]
  rfl
theorem ptrs_congr {p q : Nat → Nat} {n : Nat} (h : ∀ k, k < n → p k = q k) : ptrs p n = ptrs q n := by
  unfold ptrs
  apply List.map_congr_left
  intro k hk
  rw [h k (List.mem_range.1 hk)]
theorem ptrs_set (p : Nat → Nat) (n k b : Nat) : (ptrs p n).set k (iptr b) = ptrs (fun j => if j = k then b else p j) n := by
  apply List.ext_getElem?
  intro j
  rw [List.getElem?_set]
  by_cases hj : j < n
  · rw [ptrs_at _ hj]
    by_cases e : k = j
    · subst e
      rw [if_pos rfl, if_pos (by rw [ptrs_len]; exact hj), ptrs_at _ hj, if_pos rfl]
    · rw [if_neg e, ptrs_at _ hj, if_neg (fun h => e h.symm)]
  · have h1 : ∀ q : Nat → Nat, (ptrs q n)[j]? = none := fun q => List.getElem?_eq_none (by rw [ptrs_len]; omega)
    rw [h1, h1]
    by_cases e : k = j
    · subst e
      rw [if_pos rfl, if_neg (by rw [ptrs_len]; exact hj)]
    · rw [if_neg e]
theorem ptrs_snoc (p : Nat → Nat) (n b : Nat) : ptrs p n ++ [iptr b] = ptrs (fun j => if j = n then b else p j) (n + 1) := by
  unfold ptrs
  rw [List.range_succ, List.map_append]
  congr 1
  · apply List.map_congr_left
    intro k hk
    have h := List.mem_range.1 hk
    show iptr (p k) = iptr (if k = n then b else p k)
    rw [if_neg (by omega)]
  · simp
theorem ptrs_take (p : Nat → Nat) {n m : Nat} (h : m ≤ n) : (ptrs p n).take m = ptrs p m := by
  apply List.ext_getElem?
  intro j
  by_cases hj : j < m
  · rw [List.getElem?_take_of_lt hj, ptrs_at _ (by omega), ptrs_at _ hj]
  · rw [List.getElem?_eq_none (by rw [List.length_take, ptrs_len]; omega), List.getElem?_eq_none (by rw [ptrs_len]; omega)]
/-- A queue in block g, its items' row in a block from B on. -/
structure Que (W : World) (B g : Nat) (fr fc : FuncId) (way : Int) (v : Value) (n : Nat) (p : Nat → Nat) : Prop where
  blk : Blk W g #[fval fr, fval fc, .int .i64 way, v] 84
  row : W.ownsRow B 85 1 v n (ptrs p n)
  ne : v.ownBlock ≠ some g
section
variable {W W' : World} {B g n : Nat} {fr fc : FuncId} {way : Int} {v : Value} {p : Nat → Nat}
theorem row_below {t : TypeId} {xs : List Value} (h : W.ownsRow B t 1 v n xs) (hb : Below W.heap.size W W') : W'.ownsRow B t 1 v n xs := by
  refine ⟨h.1, ?_⟩
  rcases h.2 with h0 | ⟨q, cap, cur, rfl, hB, hg, rest⟩
  · exact .inl h0
  · exact .inr ⟨q, cap, cur, rfl, hB, (hb.block q (Array.getElem?_eq_some_iff.1 hg).1).trans hg, rest⟩
theorem Que.below (h : Que W B g fr fc way v n p) (hb : Below W.heap.size W W') : Que W' B g fr fc way v n p :=
  ⟨h.blk.below hb h.blk.lt, row_below h.row hb, h.ne⟩
theorem Que.forms (h : Que W B g fr fc way v n p) : (v = .slice none 0 0 ∧ n = 0) ∨ ∃ q cap, v = .slice (some ⟨q, 0, none⟩) n cap ∧ q ≠ g ∧ B ≤ q ∧ q < W.heap.size ∧ n ≤ cap ∧ cap ≤ maxLen := by
  rcases h.row.2 with ⟨h1, h0⟩ | ⟨q, cap, cur, rfl, hb, hg, h1, h2, _⟩
  · exact .inl ⟨h1, h0⟩
  · exact .inr ⟨q, cap, rfl, fun e => h.ne (by rw [e]; rfl), hb, (Array.getElem?_eq_some_iff.1 hg).1, h1, h2⟩
theorem Que.slice (h : Que W B g fr fc way v n p) : ∃ A cap, v = .slice A n cap ∧ n ≤ cap ∧ cap ≤ maxLen := by
  rcases h.forms with ⟨rfl, rfl⟩ | ⟨q, cap, rfl, _, _, _, h1, h2⟩
  · exact ⟨none, 0, rfl, Nat.le_refl _, Nat.zero_le _⟩
  · exact ⟨_, cap, rfl, h1, h2⟩
/-- The row, where there is an item. -/
theorem Que.full (h : Que W B g fr fc way v n p) (hn : 0 < n) : ∃ q cap, v = .slice (some ⟨q, 0, none⟩) n cap ∧ q ≠ g ∧ B ≤ q ∧ q < W.heap.size ∧ n ≤ cap ∧ cap ≤ maxLen ∧ (∀ k, k < n → W.cell? ⟨q, k, none⟩ = some (iptr (p k))) ∧ (∀ k, W.frozen? ⟨q, k, none⟩ = false) := by
  rcases h.forms with ⟨_, h0⟩ | ⟨q, cap, rfl, h1, h2, h3, h4, h5⟩
  · omega
  · exact ⟨q, cap, rfl, h1, h2, h3, h4, h5, fun k hk => by rw [World.ownsRow.cellAt h.row k (by omega)]; exact ptrs_at p hk, fun k => World.ownsRow.frozenAt h.row k⟩
theorem Blk.four {a b c d : Value} {t : TypeId} (h : Blk W g #[a, b, c, d] t) : (W.cell? ⟨g, 0, none⟩ = some a ∧ W.cell? ⟨g, 1, none⟩ = some b ∧ W.cell? ⟨g, 2, none⟩ = some c ∧ W.cell? ⟨g, 3, none⟩ = some d) ∧ W.frozen? ⟨g, 3, none⟩ = false :=
  ⟨⟨h.cell 0, h.cell 1, h.cell 2, h.cell 3⟩, h.fro 3⟩
end
/-- A block of another type is not the items' row. -/
theorem Que.apart {W : World} {B g n b : Nat} {fr fc : FuncId} {way : Int} {v : Value} {p : Nat → Nat} {cs : Array Value} {t : TypeId} (h : Que W B g fr fc way v n p) (hb : Blk W b cs t) (ht : t ≠ 85) : some b ≠ v.ownBlock := by
  rcases h.row.2 with ⟨rfl, _⟩ | ⟨q, cap, cur, rfl, _, hg, _⟩
  · intro e; cases e
  · intro e
    have e2 : b = q := by
      have : some b = some q := e
      injection this
    subst e2
    rw [hb.row] at hg
    injection hg with hg
    injection hg with _ hg
    exact ht hg
/-- Two places change what they hold. -/
def swq (f : Nat → Nat) (i j : Nat) : Nat → Nat := fun k => if k = i then f j else if k = j then f i else f k
theorem srt_drewN {B : Nat} {a w : World} (h : Below B a w) (n : Nat) : Below B a (w.drewN n) := ⟨h.os, h.tape, h.output, h.size, h.block⟩
theorem qLen_any {W : World} {B g n : Nat} {fr fc : FuncId} {way : Int} {v : Value} {p : Nat → Nat} (h : Que W B g fr fc way v n p) :
    Calls Tryz.prog 33 #[iptr g] W fun e w' => e = .returned (.int .i64 n) ∧ W = w' := by
  obtain ⟨A, cap, rfl, hn, hc⟩ := h.slice
  obtain ⟨⟨_, _, _, c3⟩, _⟩ := h.blk.four
  unfold maxLen at hc
  clear h
  go_enter Tryz.func33, Tryz.ntmps33
  go_wp2
  go_ret
  exact ⟨rfl, rfl⟩
/-- Does an item come out ahead of another: by the order, then by the places in the list. -/
def lessB (r x y : Int) : Bool := if r = 0 then decide (x < y) else decide (r < 0)
set_option maxRecDepth 100000 in
set_option maxHeartbeats 2000000 in
theorem qLess_any {W : World} {B g n : Nat} {fr fc : FuncId} {way : Int} {v : Value} {p : Nat → Nat} (h : Que W B g fr fc way v n p) (i j : Nat) (hi : i < n) (hj : j < n) {x y c r : Int}
    (hx : W.cell? ⟨p i, 0, none⟩ = some (.int .i64 x)) (hy : W.cell? ⟨p j, 0, none⟩ = some (.int .i64 y)) (hr : IntKind.i64.wrap (c * way) = r)
    (eg : ∀ (args : Array Value) (w : World), (callFunc fc args).run Tryz.prog w = .ok (.enter fc args) w) (hC : ∀ W', Below W.heap.size W W' → Calls Tryz.prog fc #[iptr (p i), iptr (p j)] W' fun e w' => e = .returned (.int .i64 c) ∧ Below W'.heap.size W' w') :
    Calls Tryz.prog 266 #[iptr g, .int .i64 (i : Int), .int .i64 (j : Int)] W fun e w' => e = .returned (.bool (lessB r x y)) ∧ Below W.heap.size W w' := by
  obtain ⟨q, cap, rfl, hqg, hBq, hql, hn, hc, hcell, -⟩ := h.full (by omega)
  have ci := hcell i hi
  have cj := hcell j hj
  obtain ⟨⟨_, c1, c2, c3⟩, _⟩ := h.blk.four
  unfold maxLen at hc
  have hi1 : (i : Int) < (n : Int) := by omega
  have hj1 : (j : Int) < (n : Int) := by omega
  have hi0 : (0 : Int) ≤ (i : Int) := by omega
  have hj0 : (0 : Int) ≤ (j : Int) := by omega
  have CC := Lib.hid hC
  have HC2 := Lib.hid (fun (W' : World) (hb : Below W.heap.size W W') => (show W'.cell? ⟨g, 1, none⟩ = some (fval fc) ∧ W'.cell? ⟨g, 2, none⟩ = some (.int .i64 way) from ⟨(h.blk.below hb h.blk.lt).cell 1, (h.blk.below hb h.blk.lt).cell 2⟩))
  have HXY := Lib.hid (fun (W' : World) (hb : Below W.heap.size W W') => (show W'.cell? ⟨p i, 0, none⟩ = some (.int .i64 x) ∧ W'.cell? ⟨p j, 0, none⟩ = some (.int .i64 y) from ⟨(hb.cell (World.block_lt_of_cell? W _ hx)).trans hx, (hb.cell (World.block_lt_of_cell? W _ hy)).trans hy⟩))
  obtain ⟨a, ha⟩ : ∃ a, p i = a := ⟨_, rfl⟩
  obtain ⟨b, hb⟩ : ∃ b, p j = b := ⟨_, rfl⟩
  rw [ha] at ci CC HXY
  rw [hb] at cj CC HXY
  have hR := Below.refl W.heap.size W
  clear h hC hcell hx hy ha hb
  go_enter Tryz.func266, Tryz.ntmps266
  go_wp2_with fail
  go_quiet (fail)
  go_wp2_with fail
  go_region_held3 (fun w' => w'.cell? ⟨g, 1, none⟩ = some (fval fc) ∧ w'.cell? ⟨g, 2, none⟩ = some (.int .i64 way))
    (first | (with_reducible exact S2) | (with_reducible exact S1) | go_keep)
    (first | ((with_reducible refine (CC.out _ (by first | exact hR | exact hR.drew | exact srt_drewN hR _)).mono ?_); rintro e W4 ⟨rfl, h4⟩; have b4 : Below W.heap.size W W4 := ⟨h4.os, h4.tape, h4.output, h4.size, h4.block⟩; have S2 := HC2.out _ b4; clear h4))
  all_goals
    obtain ⟨x4, y4⟩ := HXY.out _ b4
    clear S2 ci cj c1 c2 c3 hr CC HC2 HXY
    by_cases h0 : r = 0
    · have e1 : (r != 0) = false := by rw [h0]; rfl
      have e2 : lessB r x y = decide (x < y) := if_pos h0
      have E2 := Lib.hid e2
      clear h0 e2
      go_wp2_with fail
      go_quiet (fail)
      go_wp2_with fail
      go_ret
      exact ⟨by rw [E2.out]; rfl, by first | exact b4 | exact srt_drewN b4 _⟩
    · have e1 : (r != 0) = true := by rw [bne_iff_ne]; exact h0
      have e2 : lessB r x y = decide (r < 0) := if_neg h0
      have E2 := Lib.hid e2
      clear h0 e2
      go_wp2_with fail
      go_ret
      exact ⟨by rw [E2.out]; rfl, by first | exact b4 | exact srt_drewN b4 _⟩
theorem ptrs_swap (p : Nat → Nat) (n i j : Nat) : ((ptrs p n).set i (iptr (p j))).set j (iptr (p i)) = ptrs (swq p i j) n := by
  rw [ptrs_set, ptrs_set]
  apply ptrs_congr
  intro k _
  unfold swq
  by_cases h1 : k = j
  · by_cases h2 : k = i
    · rw [if_pos h1, if_pos h2, ← h1, ← h2]
    · rw [if_pos h1, if_neg h2, if_pos h1]
  · rw [if_neg h1]
    by_cases h2 : k = i
    · rw [if_pos h2, if_pos h2]
    · rw [if_neg h2, if_neg h2, if_neg h1]
theorem srt_grown_set (W : World) (q j : Nat) (u : Value) : W.grownBy (W.setCell ⟨q, j, none⟩ u) (some q) := by
  have b := (Below.refl 0 W).setCell (p := ⟨q, j, none⟩) (Nat.zero_le _) u
  exact ⟨b.os, b.tape, b.output, b.size, fun i _ h => Below.heap_setCell W ⟨q, j, none⟩ u i (fun e => h (by rw [e]))⟩
set_option maxRecDepth 100000 in
set_option maxHeartbeats 4000000 in
theorem qSwap_any {W : World} {B g n : Nat} {fr fc : FuncId} {way : Int} {v : Value} {p : Nat → Nat} (h : Que W B g fr fc way v n p) (i j : Nat) (hi : i < n) (hj : j < n) :
    Calls Tryz.prog 269 #[iptr g, .int .i64 (i : Int), .int .i64 (j : Int)] W fun e w' => e = .returned (.tuple #[]) ∧ Que w' B g fr fc way v n (swq p i j) ∧ W.grownBy w' v.ownBlock := by
  obtain ⟨q, cap, rfl, hqg, hBq, hql, hn, hc, hcell, hfro⟩ := h.full (by omega)
  have ci := hcell i hi
  have cj := hcell j hj
  have fi := hfro i
  have fj := hfro j
  obtain ⟨⟨_, _, _, c3⟩, _⟩ := h.blk.four
  unfold maxLen at hc
  have hi1 : (i : Int) < (n : Int) := by omega
  have hj1 : (j : Int) < (n : Int) := by omega
  have hi0 : (0 : Int) ≤ (i : Int) := by omega
  have hj0 : (0 : Int) ≤ (j : Int) := by omega
  have H := Lib.hid h
  obtain ⟨a, ha⟩ : ∃ a, p i = a := ⟨_, rfl⟩
  obtain ⟨b, hb⟩ : ∃ b, p j = b := ⟨_, rfl⟩
  rw [ha] at ci
  rw [hb] at cj
  have HA := Lib.hid ha
  have HB := Lib.hid hb
  obtain ⟨cj2, hcj2⟩ := cell?_setCell_some (w := W) (p := ⟨q, i, none⟩) (x := .pointer (some ⟨b, 0, none⟩)) (q := ⟨q, j, none⟩) (v := iptr b) cj
  clear h hcell hfro ha hb
  go_enter Tryz.func269, Tryz.ntmps269
  go_wp2_with fail
  go_region
  all_goals
    go_end0
    have r1 := (World.ownsRow.stored H.out.row i (iptr b)).1
    have r2 := (World.ownsRow.stored r1 j (iptr a)).1
    rw [← HA.out, ← HB.out, ptrs_swap] at r2
    have g1 := srt_grown_set W q i (iptr b)
    have g2 := g1.trans (srt_grown_set (W.setCell ⟨q, i, none⟩ (iptr b)) q j (iptr a))
    have k1 := (H.out.blk.other (j := i) (u := iptr b) hqg.symm).other (j := j) (u := iptr a) hqg.symm
    rw [← HA.out, ← HB.out] at k1 g2
    rw [← HA.out, ← HB.out]
    exact ⟨rfl, ⟨⟨k1.row⟩, r2, H.out.ne⟩, ⟨g2.os, g2.tape, g2.output, g2.size, g2.block⟩⟩
end Go.Proofs.YtnbagigbaceonaaGreatDoor

namespace Go.Proofs.YtnbagigbaceonaaGreatDoor
open Go.RowKit Go.Lib

/-- What an entry is. -/
structure Dat where
  key : ByteArray
  kind : Int
  num : Nat
  str : ByteArray
  sub : Bool
def itC (a : Nat) (d : Dat) : Array Value := #[.int .i64 (a : Int), .string d.key, .int .i64 d.kind, .float .f64 d.num, .string d.str, .bool d.sub]
/-- Item number a lies in block ib a. -/
abbrev Itm (W : World) (ib : Nat → Nat) (d : Nat → Dat) (a : Nat) : Prop := Blk W (ib a) (itC a (d a)) 87
theorem Itm.at {W : World} {ib : Nat → Nat} {d : Nat → Dat} {a : Nat} (h : Itm W ib d a) : W.cell? ⟨ib a, 0, none⟩ = some (.int .i64 (a : Int)) := h.cell 0
/-- A queue of the items below N: f tells which of them stands at a place. -/
structure Stt (W : World) (w0 wz : World) (B g : Nat) (fr fc : FuncId) (way : Int) (v : Value) (n N : Nat) (f ib : Nat → Nat) (d : Nat → Dat) : Prop where
  que : Que W B g fr fc way v n (fun k => ib (f k))
  its : ∀ a, a < N → Itm W ib d a
  bel : Below B w0 W
  lim : B ≤ W.heap.size
  old : B ≤ g
  kept : ∀ b cs t, t ≠ 84 → t ≠ 85 → t ≠ 87 → Blk wz b cs t → Blk W b cs t
section
variable {W W' w0 wz : World} {B g n N : Nat} {fr fc : FuncId} {way : Int} {v : Value} {f ib : Nat → Nat} {d : Nat → Dat}
theorem Stt.below (h : Stt W w0 wz B g fr fc way v n N f ib d) (hb : Below W.heap.size W W') : Stt W' w0 wz B g fr fc way v n N f ib d :=
  ⟨h.que.below hb, fun a ha => (h.its a ha).below hb (h.its a ha).lt, h.bel.trans (hb.mono h.lim), Nat.le_trans h.lim hb.size, h.old, fun b cs t h1 h2 h3 k => (h.kept b cs t h1 h2 h3 k).below hb (h.kept b cs t h1 h2 h3 k).lt⟩
theorem Stt.row (h : Stt W w0 wz B g fr fc way v n N f ib d) : ∀ k, v.ownBlock = some k → B ≤ k := fun k hk => (World.ownsRow.lt h.que.row k hk).1
theorem Stt.grown (h : Stt W w0 wz B g fr fc way v n N f ib d) (hg : W.grownBy W' v.ownBlock) {v' : Value} {m : Nat} {f' : Nat → Nat} (hq : Que W' B g fr fc way v' m (fun k => ib (f' k))) : Stt W' w0 wz B g fr fc way v' m N f' ib d :=
  ⟨hq, fun a ha => (h.its a ha).grown hg (h.que.apart (h.its a ha) (by decide)), h.bel.grown hg h.lim h.row, Nat.le_trans h.lim hg.size, h.old, fun b cs t h1 h2 h3 k => (h.kept b cs t h1 h2 h3 k).grown hg (h.que.apart (h.kept b cs t h1 h2 h3 k) h2)⟩
theorem Stt.base (h : Stt W w0 wz B g fr fc way v n N f ib d) : Stt W w0 W B g fr fc way v n N f ib d := ⟨h.que, h.its, h.bel, h.lim, h.old, fun _ _ _ _ _ _ k => k⟩
theorem Stt.swap (h : Stt W w0 wz B g fr fc way v n N f ib d) {i j : Nat} (hq : Que W' B g fr fc way v n (swq (fun k => ib (f k)) i j)) (hg : W.grownBy W' v.ownBlock) : Stt W' w0 wz B g fr fc way v n N (swp f i j) ib d := by
  refine h.grown hg ?_
  have e : (fun k => ib (swp f i j k)) = swq (fun k => ib (f k)) i j := by
    funext k
    unfold swp swq
    split
    · rfl
    · split <;> rfl
  rw [e]
  exact hq
end
/-- What the order's comparison answers of two items, whatever has turned since. -/
def Compares (w0 : World) (B : Nat) (fc : FuncId) (N : Nat) (ib : Nat → Nat) (d : Nat → Dat) (cv : Nat → Nat → Int) : Prop :=
  ∀ W a b, a < N → b < N → Below B w0 W → Itm W ib d a → Itm W ib d b → Calls Tryz.prog fc #[iptr (ib a), iptr (ib b)] W fun e w' => e = .returned (.int .i64 (cv a b)) ∧ Below W.heap.size W w'
/-- A function that is entered when it is called. -/
abbrev Enters (fc : FuncId) : Prop := ∀ (args : Array Value) (w : World), (callFunc fc args).run Tryz.prog w = .ok (.enter fc args) w
def ltV (cv : Nat → Nat → Int) (way : Int) (a b : Nat) : Bool := lessB (IntKind.i64.wrap (cv a b * way)) (a : Int) (b : Int)
theorem sLess_any {W w0 wz : World} {B g n N : Nat} {fr fc : FuncId} {way : Int} {v : Value} {f ib : Nat → Nat} {d : Nat → Dat} {cv : Nat → Nat → Int} (h : Stt W w0 wz B g fr fc way v n N f ib d) (eg : Enters fc) (hC : Compares w0 B fc N ib d cv) (i j : Nat) (hi : i < n) (hj : j < n) (fi : f i < N) (fj : f j < N) :
    Calls Tryz.prog 266 #[iptr g, .int .i64 (i : Int), .int .i64 (j : Int)] W fun e w' => e = .returned (.bool (ltV cv way (f i) (f j))) ∧ Below W.heap.size W w' :=
  qLess_any h.que i j hi hj (h.its _ fi).at (h.its _ fj).at rfl eg (fun W' hb => hC W' _ _ fi fj (h.bel.trans (hb.mono h.lim)) ((h.its _ fi).below hb (h.its _ fi).lt) ((h.its _ fj).below hb (h.its _ fj).lt))
abbrev hif (g : Nat) : Value := .iface 89 (iptr g)
theorem m_less (g : Nat) (w : World) : (method 418 89 (iptr g) "Less").run Tryz.prog w = .ok (266, iptr g) w := by kernel_rfl
theorem m_swap (g : Nat) (w : World) : (method 418 89 (iptr g) "Swap").run Tryz.prog w = .ok (269, iptr g) w := by kernel_rfl
theorem m_len (g : Nat) (w : World) : (method 418 89 (iptr g) "Len").run Tryz.prog w = .ok (33, iptr g) w := by kernel_rfl
theorem m_push (g : Nat) (w : World) : (method 418 89 (iptr g) "Push").run Tryz.prog w = .ok (268, iptr g) w := by kernel_rfl
theorem m_pop (g : Nat) (w : World) : (method 418 89 (iptr g) "Pop").run Tryz.prog w = .ok (267, iptr g) w := by kernel_rfl
/-- A heap in a queue. -/
def HeapEnd (w0 wz : World) (B g : Nat) (fr fc : FuncId) (way : Int) (v : Value) (n N : Nat) (ib : Nat → Nat) (d : Nat → Dat) (lt : Nat → Nat → Bool) (S : Nat → Prop) (W : World) : Prop :=
  ∃ f, Stt W w0 wz B g fr fc way v n N f ib d ∧ Heap lt f n ∧ Hold f n S
set_option maxRecDepth 100000 in
set_option maxHeartbeats 4000000 in
theorem up_any {W w0 wz : World} {B g n N j : Nat} {fr fc : FuncId} {way : Int} {v : Value} {f ib : Nat → Nat} {d : Nat → Dat} {cv : Nat → Nat → Int} {S : Nat → Prop} (o : Ord (ltV cv way)) (eg : Enters fc) (hC : Compares w0 B fc N ib d cv) (hS : ∀ a, S a → a < N) (hn : n ≤ 1000000)
    (h : Stt W w0 wz B g fr fc way v n N f ib d) (hU : UpH (ltV cv way) f n j) (hH : Hold f n S) (hj : j < n) :
    Calls Tryz.prog 49 #[hif g, .int .i64 (j : Int)] W fun e w' => (∃ r, e = .returned r) ∧ HeapEnd w0 wz B g fr fc way v n N ib d (ltV cv way) S w' := by
  have hl := fun w => m_less g w
  have hs := fun w => m_swap g w
  have HC := Lib.hid hC
  have HO := Lib.hid o
  have HS := Lib.hid hS
  have HEG := Lib.hid eg
  clear eg
  go_enter Tryz.func49, Tryz.ntmps49
  go_wp2
  go_loopw [1] (fun jv wr => ∃ j f, jv = .int .i64 ((j : Nat) : Int) ∧ j < n ∧ Stt wr w0 wz B g fr fc way v n N f ib d ∧ UpH (ltV cv way) f n j ∧ Hold f n S) (fun jv _ => (RowKit.intOf jv).toNat)
  case atStart => exact ⟨j, f, rfl, hj, h, hU, hH⟩
  case round =>
    clear h hU hH hC o hj hS
    obtain ⟨j, f, rfl, hj, h, hU, hH⟩ := hrel
    have HST := Lib.hid h
    have HU := Lib.hid hU
    have HH := Lib.hid hH
    clear h hU hH
    by_cases h0 : j = 0
    · subst h0
      go_wp2_with fail
      go_end0
      exact ⟨⟨_, rfl⟩, f, HST.out, HU.out.done (Or.inl rfl), HH.out⟩
    · obtain ⟨i, hi⟩ : ∃ i, (j - 1) / 2 = i := ⟨_, rfl⟩
      have e1 : ((j : Int) - 1) / 2 = (i : Int) := by omega
      have hij : i < j := by omega
      have hne : ((i : Int) == (j : Int)) = false := by rw [beq_eq_false_iff_ne]; omega
      have HI := Lib.hid hi
      have fi : f i < N := HS.out _ ((HH.out.on _).2 ⟨i, by omega, rfl⟩)
      have fj : f j < N := HS.out _ ((HH.out.on _).2 ⟨j, hj, rfl⟩)
      have CL := Lib.hid (sLess_any HST.out HEG.out HC.out j i hj (by omega) fj fi)
      obtain ⟨b, hb⟩ : ∃ b, ltV cv way (f j) (f i) = b := ⟨_, rfl⟩
      rw [hb] at CL
      have HLB := Lib.hid hb
      clear hi hb
      go_wp2_with fail
      refine CL.out.mono ?_
      rintro e W2 ⟨rfl, h2⟩
      have HS2 := Lib.hid (HST.out.below h2)
      clear h2 HST CL
      cases b with
      | false =>
        go_wp2_with fail
        go_end0
        exact ⟨⟨_, rfl⟩, f, HS2.out, HU.out.done (Or.inr (by rw [HI.out]; exact HLB.out)), HH.out⟩
      | true =>
        have CS := Lib.hid (qSwap_any HS2.out.que i j (by omega) hj)
        go_wp2_with fail
        refine CS.out.mono ?_
        rintro e W3 ⟨rfl, hq, hg⟩
        have HS3 := Lib.hid (HS2.out.swap hq hg)
        clear hq hg HS2 CS
        go_wp2_with fail
        go_roundw
        case rel => exact ⟨i, swp f i j, by go_num, by omega, HS3.out, UpH.step HO.out HU.out (by omega) hj HI.out HLB.out, HH.out.swp (by omega) hj⟩
        case measure => simp [RowKit.intOf]; omega
/-- A heap below a place that stays. -/
def DownEnd (w0 wz : World) (B g : Nat) (fr fc : FuncId) (way : Int) (v : Value) (n N m x : Nat) (ib : Nat → Nat) (d : Nat → Dat) (lt : Nat → Nat → Bool) (S : Nat → Prop) (W : World) : Prop :=
  ∃ f, Stt W w0 wz B g fr fc way v n N f ib d ∧ Heap lt f m ∧ Hold f m S ∧ f m = x
set_option maxRecDepth 100000 in
set_option maxHeartbeats 8000000 in
theorem down_any {W w0 wz : World} {B g n N m x : Nat} {fr fc : FuncId} {way : Int} {v : Value} {f ib : Nat → Nat} {d : Nat → Dat} {cv : Nat → Nat → Int} {S : Nat → Prop} (o : Ord (ltV cv way)) (eg : Enters fc) (hC : Compares w0 B fc N ib d cv) (hS : ∀ a, S a → a < N) (hn : n ≤ 1000000) (hm : m ≤ n)
    (h : Stt W w0 wz B g fr fc way v n N f ib d) (hU : DownH (ltV cv way) f m 0) (hH : Hold f m S) (hx : f m = x) :
    Calls Tryz.prog 50 #[hif g, .int .i64 0, .int .i64 (m : Int)] W fun e w' => (∃ r, e = .returned r) ∧ DownEnd w0 wz B g fr fc way v n N m x ib d (ltV cv way) S w' := by
  have hl := fun w => m_less g w
  have hs := fun w => m_swap g w
  have HC := Lib.hid hC
  have HO := Lib.hid o
  have HS := Lib.hid hS
  have HEG := Lib.hid eg
  clear eg
  go_enter Tryz.func50, Tryz.ntmps50
  go_wp2
  go_loopw [7] (fun iv wr => ∃ i f, iv = .int .i64 ((i : Nat) : Int) ∧ (i < m ∨ i = 0) ∧ Stt wr w0 wz B g fr fc way v n N f ib d ∧ DownH (ltV cv way) f m i ∧ Hold f m S ∧ f m = x) (fun iv _ => n - (RowKit.intOf iv).toNat)
  case atStart => exact ⟨0, f, rfl, Or.inr rfl, h, hU, hH, hx⟩
  case round =>
    clear h hU hH hC o hS hx
    obtain ⟨i, f, rfl, hi, h, hU, hH, hx⟩ := hrel
    have hin : i ≤ n := by omega
    have HII := Lib.hid hi
    have HST := Lib.hid h
    have HU := Lib.hid hU
    have HH := Lib.hid hH
    have HX := Lib.hid hx
    clear h hU hH hi hx
    by_cases h1 : m ≤ 2 * i + 1
    · have k1 : (m : Int) ≤ 2 * (i : Int) + 1 := by omega
      go_wp2_with fail
      go_ret
      exact ⟨⟨_, rfl⟩, f, HST.out, HU.out.done (fun k k0 k1 k2 => by omega), HH.out, HX.out⟩
    · have k1 : ¬ (m : Int) ≤ 2 * (i : Int) + 1 := by omega
      have fm : ∀ k, k < m → f k < N := fun k hk => HS.out _ ((HH.out.on _).2 ⟨k, hk, rfl⟩)
      have FM := Lib.hid fm
      clear fm
      obtain ⟨j1, hj1⟩ : ∃ j1, 2 * i + 1 = j1 := ⟨_, rfl⟩
      have q1 : 2 * (i : Int) + 1 = (j1 : Int) := by omega
      have hjm : j1 < m := by omega
      have hj1a : (j1 - 1) / 2 = i ∧ 0 < j1 ∧ i < j1 := by omega
      by_cases h2 : j1 + 1 < m
      · have k2 : (j1 : Int) + 1 < (m : Int) := by omega
        obtain ⟨j2, hj2⟩ : ∃ j2, j1 + 1 = j2 := ⟨_, rfl⟩
        have q2 : (j1 : Int) + 1 = (j2 : Int) := by omega
        have hj2m : j2 < m := by omega
        have hj2a : (j2 - 1) / 2 = i ∧ 0 < j2 ∧ i < j2 := by omega
        have CL := Lib.hid (sLess_any HST.out HEG.out HC.out j2 j1 (by omega) (by omega) (FM.out _ hj2m) (FM.out _ hjm))
        obtain ⟨b, hb⟩ : ∃ b, ltV cv way (f j2) (f j1) = b := ⟨_, rfl⟩
        rw [hb] at CL
        have HLB := Lib.hid hb
        clear hb
        go_wp2_with fail
        refine CL.out.mono ?_
        rintro e W2 ⟨rfl, h2⟩
        have HS2 := Lib.hid (HST.out.below h2)
        clear h2 HST CL
        cases b with
        | true =>
          have hs : ∀ k, 0 < k → k < m → (k - 1) / 2 = i → ltV cv way (f k) (f j2) = false := fun k k0 k1 k2 => by
            rcases (by omega : k = j1 ∨ k = j2) with rfl | rfl
            · exact HO.out.asym _ _ HLB.out
            · exact HO.out.irr _
          have HSS := Lib.hid hs
          clear hs
          have CL2 := Lib.hid (sLess_any HS2.out HEG.out HC.out j2 i (by omega) (by omega) (FM.out _ (by omega)) (FM.out _ (by omega)))
          obtain ⟨b2, hb2⟩ : ∃ b, ltV cv way (f j2) (f i) = b := ⟨_, rfl⟩
          rw [hb2] at CL2
          have HLB2 := Lib.hid hb2
          clear hb2
          go_wp2_with fail
          refine CL2.out.mono ?_
          rintro e W3 ⟨rfl, h3⟩
          have HS3 := Lib.hid (HS2.out.below h3)
          clear h3 CL2
          cases b2 with
          | false =>
            go_wp2_with fail
            go_ret
            exact ⟨⟨_, rfl⟩, f, HS3.out, HU.out.done (fun k k0 k1 k2 => HO.out.ntrans (HSS.out k k0 k1 k2) HLB2.out), HH.out, HX.out⟩
          | true =>
            have CS := Lib.hid (qSwap_any HS3.out.que i j2 (by omega) (by omega))
            go_wp2_with fail
            refine CS.out.mono ?_
            rintro e W4 ⟨rfl, hq, hg⟩
            have HS4 := Lib.hid (HS3.out.swap hq hg)
            clear hq hg HS3 CS
            go_wp2_with fail
            go_roundw
            case rel => exact ⟨j2, swp f i j2, by go_num, Or.inl (by omega), HS4.out, DownH.step HO.out HU.out (by omega) (by omega) (by omega) HSS.out HLB2.out, HH.out.swp (by omega) (by omega), by rw [swp_o _ (by omega) (by omega)]; exact HX.out⟩
            case measure => simp [RowKit.intOf]; omega
        | false =>
          have hs : ∀ k, 0 < k → k < m → (k - 1) / 2 = i → ltV cv way (f k) (f j1) = false := fun k k0 k1 k2 => by
            rcases (by omega : k = j1 ∨ k = j2) with rfl | rfl
            · exact HO.out.irr _
            · exact HLB.out
          have HSS := Lib.hid hs
          clear hs
          have CL2 := Lib.hid (sLess_any HS2.out HEG.out HC.out j1 i (by omega) (by omega) (FM.out _ (by omega)) (FM.out _ (by omega)))
          obtain ⟨b2, hb2⟩ : ∃ b, ltV cv way (f j1) (f i) = b := ⟨_, rfl⟩
          rw [hb2] at CL2
          have HLB2 := Lib.hid hb2
          clear hb2
          go_wp2_with fail
          refine CL2.out.mono ?_
          rintro e W3 ⟨rfl, h3⟩
          have HS3 := Lib.hid (HS2.out.below h3)
          clear h3 CL2
          cases b2 with
          | false =>
            go_wp2_with fail
            go_ret
            exact ⟨⟨_, rfl⟩, f, HS3.out, HU.out.done (fun k k0 k1 k2 => HO.out.ntrans (HSS.out k k0 k1 k2) HLB2.out), HH.out, HX.out⟩
          | true =>
            have CS := Lib.hid (qSwap_any HS3.out.que i j1 (by omega) (by omega))
            go_wp2_with fail
            refine CS.out.mono ?_
            rintro e W4 ⟨rfl, hq, hg⟩
            have HS4 := Lib.hid (HS3.out.swap hq hg)
            clear hq hg HS3 CS
            go_wp2_with fail
            go_roundw
            case rel => exact ⟨j1, swp f i j1, by go_num, Or.inl (by omega), HS4.out, DownH.step HO.out HU.out (by omega) (by omega) (by omega) HSS.out HLB2.out, HH.out.swp (by omega) (by omega), by rw [swp_o _ (by omega) (by omega)]; exact HX.out⟩
            case measure => simp [RowKit.intOf]; omega
      · have k2 : ¬ (j1 : Int) + 1 < (m : Int) := by omega
        have hs : ∀ k, 0 < k → k < m → (k - 1) / 2 = i → ltV cv way (f k) (f j1) = false := fun k k0 k1 k2 => by
          obtain rfl : k = j1 := by omega
          exact HO.out.irr _
        have HSS := Lib.hid hs
        clear hs
        have CL2 := Lib.hid (sLess_any HST.out HEG.out HC.out j1 i (by omega) (by omega) (FM.out _ (by omega)) (FM.out _ (by omega)))
        obtain ⟨b2, hb2⟩ : ∃ b, ltV cv way (f j1) (f i) = b := ⟨_, rfl⟩
        rw [hb2] at CL2
        have HLB2 := Lib.hid hb2
        clear hb2
        go_wp2_with fail
        refine CL2.out.mono ?_
        rintro e W3 ⟨rfl, h3⟩
        have HS3 := Lib.hid (HST.out.below h3)
        clear h3 CL2
        cases b2 with
        | false =>
          go_wp2_with fail
          go_ret
          exact ⟨⟨_, rfl⟩, f, HS3.out, HU.out.done (fun k k0 k1 k2 => HO.out.ntrans (HSS.out k k0 k1 k2) HLB2.out), HH.out, HX.out⟩
        | true =>
          have CS := Lib.hid (qSwap_any HS3.out.que i j1 (by omega) (by omega))
          go_wp2_with fail
          refine CS.out.mono ?_
          rintro e W4 ⟨rfl, hq, hg⟩
          have HS4 := Lib.hid (HS3.out.swap hq hg)
          clear hq hg HS3 CS
          go_wp2_with fail
          go_roundw
          case rel => exact ⟨j1, swp f i j1, by go_num, Or.inl (by omega), HS4.out, DownH.step HO.out HU.out (by omega) (by omega) (by omega) HSS.out HLB2.out, HH.out.swp (by omega) (by omega), by rw [swp_o _ (by omega) (by omega)]; exact HX.out⟩
          case measure => simp [RowKit.intOf]; omega
end Go.Proofs.YtnbagigbaceonaaGreatDoor

namespace Go.Proofs.YtnbagigbaceonaaGreatDoor
open Go.RowKit Go.Lib

/-- 'append' as a step of a region that draws, by a known run. -/
theorem step_append_val {P : Program} {ops : Array Oper} {o : Oper} {a : Act} {w : World} {K : Act → World → Prop} {Q : Exit → Act → World → Prop} {E : Prop}
    (hg : o.guard = none) (d x : Operand) (dT sT : TypeId) (hop : o.op = Op.call { callee := Callee.builtin Builtin.append, args := #[d, x], argTypes := #[dT, sT] })
    (v : Value) (hd : a.eval d = v) (t : Value) (hx : a.eval x = t) (v' : Value) (w' : World) (hrun : (Builtin.append_ #[dT, sT] o.type #[v, t]).run P w = .ok v' w')
    (hK : K (a.put o.dst v') w') : if Region.wanted o (yielded ops a.tmps) = true then Oper.wp P o a w K Q else E := by
  have hw : Region.wanted o (yielded ops a.tmps) = true := by simp [Region.wanted, hg]
  rw [if_pos hw]
  unfold Oper.wp
  simp [execOp, hop, resolve, invoke, builtin, hd, hx, hrun, Result.andThen]
  exact hK
theorem info_item : (Tryz.prog.info? 85).map (fun i => (i.zero, i.size, i.bytes)) = some (some (.pointer none), 1, 8) := by kernel_rfl
abbrev iif (b : Nat) : Value := .iface 85 (iptr b)
theorem ta_item (v : Value) (w : World) : (Instr.typeAssert (.iface 85 v) 20 85 false).run Tryz.prog w = .ok v w := by kernel_rfl
theorem ptrs_push (ib f : Nat → Nat) (n x : Nat) : ptrs (fun k => ib (f k)) n ++ [iptr (ib x)] = ptrs (fun k => ib (if k = n then x else f k)) (n + 1) := by
  rw [ptrs_snoc]
  apply ptrs_congr
  intro k _
  show (if k = n then ib x else ib (f k)) = ib (if k = n then x else f k)
  split <;> rfl
theorem Blk.ne {W : World} {b c : Nat} {cs ds : Array Value} {t u : TypeId} (h : Blk W b cs t) (k : Blk W c ds u) (ht : t ≠ u) : b ≠ c := by
  rintro rfl
  have := h.row.symm.trans k.row
  injection this with this
  injection this with _ this
  exact ht this
/-- The queue's slice set anew. -/
theorem Stt.put {W w0 wz : World} {B g n N : Nat} {fr fc : FuncId} {way : Int} {v0 v : Value} {f ib : Nat → Nat} {d : Nat → Dat} (hg : Blk W g #[fval fr, fval fc, .int .i64 way, v0] 84) (hr : W.ownsRow B 85 1 v n (ptrs (fun k => ib (f k)) n)) (hne : v.ownBlock ≠ some g)
    (hi : ∀ a, a < N → Itm W ib d a) (hb : Below B w0 W) (hl : B ≤ W.heap.size) (ho : B ≤ g) (hk : ∀ b cs t, t ≠ 84 → t ≠ 85 → t ≠ 87 → Blk wz b cs t → Blk W b cs t) : Stt (W.setCell ⟨g, 3, none⟩ v) w0 wz B g fr fc way v n N f ib d :=
  ⟨⟨hg.set (j := 3) (u := v), World.ownsRow.kept hr (srt_grown_set W g 3 v) (Or.inr hne), hne⟩, fun a ha => (hi a ha).other ((hi a ha).ne hg (by decide)), hb.setCell (p := ⟨g, 3, none⟩) ho v, by simpa [World.setCell] using hl, ho, fun b cs t h1 h2 h3 k => (hk b cs t h1 h2 h3 k).other ((hk b cs t h1 h2 h3 k).ne hg h1)⟩
set_option maxRecDepth 100000 in
set_option maxHeartbeats 4000000 in
theorem sPush_any {W w0 wz : World} {B g n N x : Nat} {fr fc : FuncId} {way : Int} {v : Value} {f ib : Nat → Nat} {d : Nat → Dat} (h : Stt W w0 wz B g fr fc way v n N f ib d) (hn : n ≤ 1000000) :
    Calls Tryz.prog 268 #[iptr g, iif (ib x)] W fun e w' => (∃ r, e = .returned r) ∧ ∃ v', Stt w' w0 wz B g fr fc way v' (n + 1) N (fun k => if k = n then x else f k) ib d := by
  obtain ⟨i0, hi, hz0, hz1, hz2⟩ := info_parts info_item
  have hlim := h.lim
  obtain ⟨v', w2, hr, hown2, hgrow, _, hloc⟩ := run_append_own_at (P := Tryz.prog) (W.drew.alloc (.cells #[iptr (ib x)] 85)) B 82 82 85 i0 (.pointer none) 1 8 Tryz.underlying82 hi hz0 hz1 hz2 rfl (by decide) v n (ptrs (fun k => ib (f k)) n) (h.que.row.drew.alloc _) ⟨W.heap.size, 0, none⟩ 1 1 [iptr (ib x)] rfl (cell_one_new _ _ _) (by simp [Value.oneCell']) (by unfold maxLen; omega) (by omega) (by simp; omega)
  have b1 : Below W.heap.size W (W.drew.alloc (.cells #[iptr (ib x)] 85)) := (Below.refl W.heap.size W).drew.alloc (by simp) _
  have s1 := h.below b1
  have g2 : Blk w2 g #[fval fr, fval fc, .int .i64 way, v] 84 := s1.que.blk.grown hgrow (s1.que.apart s1.que.blk (by decide))
  obtain ⟨⟨_, _, _, c3⟩, _⟩ := h.que.blk.four
  obtain ⟨⟨_, _, _, d3⟩, e3⟩ := g2.four
  rw [ptrs_push] at hown2
  have hgl := h.que.blk.lt
  have hne : v'.ownBlock ≠ some g := by
    rcases hloc with e | e
    · rw [e]; exact h.que.ne
    · rw [e]; intro k; simp at k; omega
  have hrow : ∀ k, v.ownBlock = some k → B ≤ k := h.row
  have it2 : ∀ a, a < N → Itm w2 ib d a := fun a ha => (s1.its a ha).grown hgrow (s1.que.apart (s1.its a ha) (by decide))
  have b2 : Below B w0 w2 := s1.bel.grown hgrow s1.lim hrow
  have l2 : B ≤ w2.heap.size := Nat.le_trans s1.lim hgrow.size
  have hta := fun w => ta_item (iptr (ib x)) w
  obtain ⟨q', cap', rfl⟩ : ∃ q' cap', v' = .slice (some ⟨q', 0, none⟩) (n + 1) cap' := by
    rcases hown2.2 with ⟨_, h0⟩ | ⟨q', cap', cur, e, _⟩
    · omega
    · exact ⟨q', cap', e⟩
  have HKP := Lib.hid (show ∀ b cs t, t ≠ 84 → t ≠ 85 → t ≠ 87 → Blk wz b cs t → Blk w2 b cs t from fun b cs t h1 h2 h3 k => (s1.kept b cs t h1 h2 h3 k).grown hgrow (s1.que.apart (s1.kept b cs t h1 h2 h3 k) h2))
  have HR := Lib.hid hr
  have HO := Lib.hid hown2
  have HG := Lib.hid g2
  have HI := Lib.hid it2
  have HB := Lib.hid b2
  have HOLD := Lib.hid h.old
  clear h s1 b1 hr hown2 hgrow hloc g2 it2 b2 hi hz0 hz1 hz2 hrow
  go_enter Tryz.func268, Tryz.ntmps268
  go_wp2_with fail
  go_region_law (refine step_append_val rfl (.tmp 8) (.tmp 11) 82 82 rfl v (by simp [Act.eval]) (.slice (some ⟨W.heap.size, 0, none⟩) 1 1) (by simp [Act.eval]) _ w2 HR.out ?_)
  all_goals
    go_end0
    exact ⟨⟨_, rfl⟩, _, Stt.put HG.out HO.out hne HI.out HB.out l2 HOLD.out HKP.out⟩
set_option maxRecDepth 100000 in
set_option maxHeartbeats 4000000 in
theorem sPop_any {W w0 wz : World} {B g m N : Nat} {fr fc : FuncId} {way : Int} {v : Value} {f ib : Nat → Nat} {d : Nat → Dat} (h : Stt W w0 wz B g fr fc way v (m + 1) N f ib d) (hn : m ≤ 1000000) :
    Calls Tryz.prog 267 #[iptr g] W fun e w' => e = .returned (iif (ib (f m))) ∧ ∃ v', Stt w' w0 wz B g fr fc way v' m N f ib d := by
  obtain ⟨q, cap, rfl, hqg, hBq, hql, hnc, hc, hcell, -⟩ := h.que.full (by omega)
  have cm := hcell m (by omega)
  obtain ⟨⟨_, _, _, c3⟩, e3⟩ := h.que.blk.four
  unfold maxLen at hc
  have hr2 : W.ownsRow B 85 1 (.slice (some ⟨q, 0, none⟩) m cap) m (ptrs (fun k => ib (f k)) m) := by
    rcases h.que.row.2 with ⟨k, _⟩ | ⟨q', cap', cur, k, hb, hg, h1, h2, h3, h4⟩
    · cases k
    · cases k
      refine ⟨by rw [ptrs_len, Nat.mul_one], Or.inr ⟨q, cap, cur, rfl, hb, hg, by omega, h2, h3, ?_⟩⟩
      rw [← ptrs_take (fun k => ib (f k)) (n := m + 1) (m := m) (by omega), ← h4, List.take_take]
      congr 1
      omega
  obtain ⟨x, hx⟩ : ∃ x, ib (f m) = x := ⟨_, rfl⟩
  rw [hx] at cm
  have HX := Lib.hid hx
  have HP := Lib.hid (Stt.put h.que.blk hr2 (fun e => hqg (by injection e)) h.its h.bel h.lim h.old h.kept)
  have hl1 : (m : Int) + 1 - 1 = (m : Int) := by omega
  clear h hcell hr2 hx
  go_enter Tryz.func267, Tryz.ntmps267
  go_wp2_with fail
  go_ret
  exact ⟨by rw [HX.out]; rfl, _, HP.out⟩
/-- A heap in a queue, whatever its slice. -/
def HeapAt (w0 wz : World) (B g : Nat) (fr fc : FuncId) (way : Int) (n N : Nat) (ib : Nat → Nat) (d : Nat → Dat) (lt : Nat → Nat → Bool) (S : Nat → Prop) (W : World) : Prop :=
  ∃ v f, Stt W w0 wz B g fr fc way v n N f ib d ∧ Heap lt f n ∧ Hold f n S
set_option maxRecDepth 100000 in
theorem hPush_any {W w0 wz : World} {B g n N x : Nat} {fr fc : FuncId} {way : Int} {ib : Nat → Nat} {d : Nat → Dat} {cv : Nat → Nat → Int} {S : Nat → Prop} (o : Ord (ltV cv way)) (eg : Enters fc) (hC : Compares w0 B fc N ib d cv) (hS : ∀ a, S a → a < N) (hn : n < 1000000)
    (h : HeapAt w0 wz B g fr fc way n N ib d (ltV cv way) S W) (hx : x < N) (hnx : ¬ S x) :
    Calls Tryz.prog 32 #[hif g, iif (ib x)] W fun e w' => (∃ r, e = .returned r) ∧ HeapAt w0 wz B g fr fc way (n + 1) N ib d (ltV cv way) (fun a => S a ∨ a = x) w' := by
  obtain ⟨v, f, hs, hp, hh⟩ := h
  have hm := fun w => m_push g w
  have hl := fun w => m_len g w
  have CP := Lib.hid (sPush_any (x := x) hs (by omega))
  have HP := Lib.hid (UpH.start (f' := fun k => if k = n then x else f k) hp (fun k hk => if_neg (by omega)))
  have HH := Lib.hid (Hold.push (f' := fun k => if k = n then x else f k) hh (fun k hk => if_neg (by omega)) (if_pos rfl) hnx)
  have HO := Lib.hid o
  have HC := Lib.hid hC
  have HEG := Lib.hid eg
  have HS := Lib.hid (show ∀ a, (S a ∨ a = x) → a < N from fun a k => k.elim (hS a) (fun e => e ▸ hx))
  clear hs hp hh o hC eg hS hnx
  go_enter Tryz.func32, Tryz.ntmps32
  go_wp2_with fail
  refine CP.out.mono ?_
  rintro e W2 ⟨⟨r, rfl⟩, v', hs2⟩
  have HS2 := Lib.hid hs2
  have CL := Lib.hid (qLen_any hs2.que)
  have hl1 : ((n + 1 : Nat) : Int) - 1 = (n : Int) := by omega
  obtain ⟨n1, hn1⟩ : ∃ n1, n + 1 = n1 := ⟨_, rfl⟩
  rw [hn1] at CL hl1
  have hb1 : 1 ≤ n1 ∧ n1 ≤ 1000000 := by omega
  have HN := Lib.hid hn1
  clear hs2 CP hn1
  go_wp2_with fail
  refine CL.out.mono ?_
  rintro e w' ⟨rfl, rfl⟩
  have hs2 := HS2.out
  have hu := HP.out
  have hh := HH.out
  rw [HN.out] at hs2 hu hh
  have CU := Lib.hid (up_any HO.out HEG.out HC.out HS.out (by omega) hs2 hu hh (by omega))
  clear hs2 hu hh
  go_wp2_with fail
  refine CU.out.mono ?_
  rintro e W3 ⟨⟨r, rfl⟩, f3, h3⟩
  have H3 := Lib.hid h3
  clear h3
  go_wp2_with fail
  go_end0
  rw [HN.out]
  exact ⟨⟨_, rfl⟩, v', f3, H3.out⟩
set_option maxRecDepth 100000 in
theorem hPop_any {W w0 wz : World} {B g m N : Nat} {fr fc : FuncId} {way : Int} {ib : Nat → Nat} {d : Nat → Dat} {cv : Nat → Nat → Int} {S : Nat → Prop} {v : Value} {f : Nat → Nat} (o : Ord (ltV cv way)) (eg : Enters fc) (hC : Compares w0 B fc N ib d cv) (hS : ∀ a, S a → a < N) (hn : m < 1000000)
    (hs : Stt W w0 wz B g fr fc way v (m + 1) N f ib d) (hp : Heap (ltV cv way) f (m + 1)) (hh : Hold f (m + 1) S) :
    Calls Tryz.prog 34 #[hif g] W fun e w' => e = .returned (iif (ib (f 0))) ∧ HeapAt w0 wz B g fr fc way m N ib d (ltV cv way) (fun a => S a ∧ a ≠ f 0) w' := by
  have hm := fun w => m_pop g w
  have hl := fun w => m_len g w
  have hsw := fun w => m_swap g w
  have CL := Lib.hid (qLen_any hs.que)
  have CS := Lib.hid (qSwap_any hs.que 0 m (by omega) (by omega))
  have HST := Lib.hid hs
  have HD := Lib.hid (DownH.start hp)
  have hh2 := (hh.swp (i := 0) (j := m) (by omega) (by omega)).pop
  rw [swp_j] at hh2
  have HH := Lib.hid hh2
  have HO := Lib.hid o
  have HC := Lib.hid hC
  have HEG := Lib.hid eg
  have HS := Lib.hid (show ∀ a, (S a ∧ a ≠ f 0) → a < N from fun a k => hS a k.1)
  have hl1 : ((m + 1 : Nat) : Int) - 1 = (m : Int) := by omega
  obtain ⟨n1, hn1⟩ : ∃ n1, m + 1 = n1 := ⟨_, rfl⟩
  rw [hn1] at CL hl1
  have hb1 : 1 ≤ n1 ∧ n1 ≤ 1000000 := by omega
  have HN := Lib.hid hn1
  have h00 : ((0 : Nat) : Int) = 0 := rfl
  rw [h00] at CS
  clear hs hp hh hh2 o hC eg hS hn1 h00
  go_enter Tryz.func34, Tryz.ntmps34
  go_wp2_with fail
  refine CL.out.mono ?_
  rintro e w' ⟨rfl, rfl⟩
  go_wp2_with fail
  refine CS.out.mono ?_
  rintro e W2 ⟨rfl, hq, hg⟩
  have hs2 := HST.out.swap hq hg
  have CD := Lib.hid (down_any HO.out HEG.out HC.out HS.out (by omega) (by omega) hs2 HD.out HH.out (swp_j f 0 m))
  clear hs2 hq hg
  go_wp2_with fail
  refine CD.out.mono ?_
  rintro e W3 ⟨⟨r, rfl⟩, f3, hs3, hp3, hh3, hx3⟩
  have CP := Lib.hid (sPop_any hs3 (by omega))
  rw [hx3] at CP
  have H3 := Lib.hid (And.intro hp3 hh3)
  clear hs3 hp3 hh3 hx3
  go_wp2_with fail
  refine CP.out.mono ?_
  rintro e W4 ⟨rfl, v4, hs4⟩
  have HS4 := Lib.hid hs4
  clear hs4
  go_wp2_with fail
  go_ret
  exact ⟨rfl, v4, f3, HS4.out, H3.out⟩
end Go.Proofs.YtnbagigbaceonaaGreatDoor

namespace Go.Proofs.YtnbagigbaceonaaGreatDoor
open Go.RowKit Go.Lib Go.Maps

abbrev ordV (fr fc : FuncId) (way : Int) : Value := .agg #[fval fr, fval fc, .int .i64 way]
def asO (v : Value) : Option (DataW Value × List MemPlace) := some (.held v, [])
def klO (s : ByteArray) : Lit := .string s.data.toList
theorem lawO : Keyed Tryz.prog 9 := string_keyed Tryz.underlying9
theorem keyO {s : ByteArray} (h : s.size ≤ maxLen) : keyOf Tryz.prog 9 (.string s) = some (klO s) := Go.WideMaps.keyOf_string_mk Tryz.underlying9 h
theorem zeroO (w : World) : (zeroValue 78).run Tryz.prog w = .ok (.agg #[.nilFunc, .nilFunc, .int .i64 0]) w := by kernel_rfl
def n0 : ByteArray := ⟨#[64, 117, 110, 115, 111, 114, 116, 101, 100]⟩
def n1 : ByteArray := ⟨#[64, 105, 110, 100, 95, 115, 116, 114, 95, 97, 115, 99]⟩
def n2 : ByteArray := ⟨#[64, 105, 110, 100, 95, 115, 116, 114, 95, 100, 101, 115, 99]⟩
def n3 : ByteArray := ⟨#[64, 105, 110, 100, 95, 110, 117, 109, 95, 97, 115, 99]⟩
def n4 : ByteArray := ⟨#[64, 105, 110, 100, 95, 110, 117, 109, 95, 100, 101, 115, 99]⟩
def n5 : ByteArray := ⟨#[64, 118, 97, 108, 95, 115, 116, 114, 95, 97, 115, 99]⟩
def n6 : ByteArray := ⟨#[64, 118, 97, 108, 95, 115, 116, 114, 95, 100, 101, 115, 99]⟩
def n7 : ByteArray := ⟨#[64, 118, 97, 108, 95, 110, 117, 109, 95, 97, 115, 99]⟩
def n8 : ByteArray := ⟨#[64, 118, 97, 108, 95, 110, 117, 109, 95, 100, 101, 115, 99]⟩
def n9 : ByteArray := ⟨#[64, 118, 97, 108, 95, 116, 121, 112, 101, 95, 97, 115, 99]⟩
def n10 : ByteArray := ⟨#[64, 118, 97, 108, 95, 116, 121, 112, 101, 95, 100, 101, 115, 99]⟩
abbrev fLeave : FuncId := 41
abbrev fAlike : FuncId := 42
abbrev fByKey : FuncId := 43
abbrev fCountKey : FuncId := 44
abbrev fByKeyN : FuncId := 45
abbrev fWrite : FuncId := 46
abbrev fByVal : FuncId := 47
abbrev fCount : FuncId := 48
/-- The orders, as their map is read. -/
def ordsD : DataW Value :=
  ((((((((((((DataW.map [] : DataW Value).put (klO n0) (.held (ordV fLeave fAlike 1))).put (klO n1) (.held (ordV fLeave fByKey 1))).put (klO n2) (.held (ordV fLeave fByKey (-1)))).put (klO n3) (.held (ordV fCountKey fByKeyN 1))).put (klO n4) (.held (ordV fCountKey fByKeyN (-1)))).put (klO n5) (.held (ordV fWrite fByVal 1))).put (klO n6) (.held (ordV fWrite fByVal (-1)))).put (klO n7) (.held (ordV fCount fByVal 1))).put (klO n8) (.held (ordV fCount fByVal (-1)))).put (klO n9) (.held (ordV fLeave fByVal 1))).put (klO n10) (.held (ordV fLeave fByVal (-1))))
theorem putO_run {W : World} {m n : Nat} {D : DataW Value} (h : W.ownsMap Tryz.prog 9 asO m n D) (hn : n < maxLen) {s : ByteArray} (hs : s.size ≤ maxLen) (v : Value) :
    ∃ W', (Instr.mapUpdate 80 (.map (some m)) (.string s) v).run Tryz.prog W = .ok () W' ∧ W'.ownsMap Tryz.prog 9 asO m (n + 1) (D.put (klO s) (.held v)) ∧ W.mapTurned W' m := by
  have := h.store lawO Tryz.underlying80 hn (val := v) (keyO hs) (d := .held v) (ps := []) rfl
  exact this
set_option maxRecDepth 100000 in
set_option maxHeartbeats 4000000 in
theorem orders_any (w : World) : Calls Tryz.prog 31 #[] w fun e w' => e = .returned (.map (some w.heap.size)) ∧ w'.ownsMap Tryz.prog 9 asO w.heap.size 11 ordsD ∧ Below w.heap.size w w' := by
  have hmm := @run_makeMap Tryz.prog
  have h0 := World.ownsMap_made w Tryz.prog 9 asO
  have b0 := (Below.refl w.heap.size w).alloc (Nat.le_refl _) (.map #[] 0)
  obtain ⟨W1, u1, h1, t1⟩ := putO_run h0 (by decide) (s := ⟨#[64, 117, 110, 115, 111, 114, 116, 101, 100]⟩) (by decide) (ordV fLeave fAlike 1)
  have b1 : Below w.heap.size w W1 := b0.grown t1.grown (by simp) (fun k e => by cases e; exact Nat.le_refl _)
  clear t1 h0 b0
  obtain ⟨W2, u2, h2, t2⟩ := putO_run h1 (by decide) (s := ⟨#[64, 105, 110, 100, 95, 115, 116, 114, 95, 97, 115, 99]⟩) (by decide) (ordV fLeave fByKey 1)
  have b2 : Below w.heap.size w W2 := b1.grown t2.grown b1.size (fun k e => by cases e; exact Nat.le_refl _)
  clear t2 h1 b1
  obtain ⟨W3, u3, h3, t3⟩ := putO_run h2 (by decide) (s := ⟨#[64, 105, 110, 100, 95, 115, 116, 114, 95, 100, 101, 115, 99]⟩) (by decide) (ordV fLeave fByKey (-1))
  have b3 : Below w.heap.size w W3 := b2.grown t3.grown b2.size (fun k e => by cases e; exact Nat.le_refl _)
  clear t3 h2 b2
  obtain ⟨W4, u4, h4, t4⟩ := putO_run h3 (by decide) (s := ⟨#[64, 105, 110, 100, 95, 110, 117, 109, 95, 97, 115, 99]⟩) (by decide) (ordV fCountKey fByKeyN 1)
  have b4 : Below w.heap.size w W4 := b3.grown t4.grown b3.size (fun k e => by cases e; exact Nat.le_refl _)
  clear t4 h3 b3
  obtain ⟨W5, u5, h5, t5⟩ := putO_run h4 (by decide) (s := ⟨#[64, 105, 110, 100, 95, 110, 117, 109, 95, 100, 101, 115, 99]⟩) (by decide) (ordV fCountKey fByKeyN (-1))
  have b5 : Below w.heap.size w W5 := b4.grown t5.grown b4.size (fun k e => by cases e; exact Nat.le_refl _)
  clear t5 h4 b4
  obtain ⟨W6, u6, h6, t6⟩ := putO_run h5 (by decide) (s := ⟨#[64, 118, 97, 108, 95, 115, 116, 114, 95, 97, 115, 99]⟩) (by decide) (ordV fWrite fByVal 1)
  have b6 : Below w.heap.size w W6 := b5.grown t6.grown b5.size (fun k e => by cases e; exact Nat.le_refl _)
  clear t6 h5 b5
  obtain ⟨W7, u7, h7, t7⟩ := putO_run h6 (by decide) (s := ⟨#[64, 118, 97, 108, 95, 115, 116, 114, 95, 100, 101, 115, 99]⟩) (by decide) (ordV fWrite fByVal (-1))
  have b7 : Below w.heap.size w W7 := b6.grown t7.grown b6.size (fun k e => by cases e; exact Nat.le_refl _)
  clear t7 h6 b6
  obtain ⟨W8, u8, h8, t8⟩ := putO_run h7 (by decide) (s := ⟨#[64, 118, 97, 108, 95, 110, 117, 109, 95, 97, 115, 99]⟩) (by decide) (ordV fCount fByVal 1)
  have b8 : Below w.heap.size w W8 := b7.grown t8.grown b7.size (fun k e => by cases e; exact Nat.le_refl _)
  clear t8 h7 b7
  obtain ⟨W9, u9, h9, t9⟩ := putO_run h8 (by decide) (s := ⟨#[64, 118, 97, 108, 95, 110, 117, 109, 95, 100, 101, 115, 99]⟩) (by decide) (ordV fCount fByVal (-1))
  have b9 : Below w.heap.size w W9 := b8.grown t9.grown b8.size (fun k e => by cases e; exact Nat.le_refl _)
  clear t9 h8 b8
  obtain ⟨W10, u10, h10, t10⟩ := putO_run h9 (by decide) (s := ⟨#[64, 118, 97, 108, 95, 116, 121, 112, 101, 95, 97, 115, 99]⟩) (by decide) (ordV fLeave fByVal 1)
  have b10 : Below w.heap.size w W10 := b9.grown t10.grown b9.size (fun k e => by cases e; exact Nat.le_refl _)
  clear t10 h9 b9
  obtain ⟨W11, u11, h11, t11⟩ := putO_run h10 (by decide) (s := ⟨#[64, 118, 97, 108, 95, 116, 121, 112, 101, 95, 100, 101, 115, 99]⟩) (by decide) (ordV fLeave fByVal (-1))
  have b11 : Below w.heap.size w W11 := b10.grown t11.grown b10.size (fun k e => by cases e; exact Nat.le_refl _)
  clear t11 h10 b10
  have H := Lib.hid h11
  have HB := Lib.hid b11
  clear h11 b11
  go_enter Tryz.func31, Tryz.ntmps31
  go_wp2
  go_ret
  exact ⟨rfl, H.out, HB.out⟩
theorem klO_inj {s t : ByteArray} (h : klO s = klO t) : s = t := by
  have h2 : s.data.toList = t.data.toList := by injection h
  exact ByteArray.ext (Array.toList_inj.1 h2)
/-- The names, and what they stand for. -/
def ordT : List (ByteArray × FuncId × FuncId × Int) := [(n0, fLeave, fAlike, 1), (n1, fLeave, fByKey, 1), (n2, fLeave, fByKey, (-1)), (n3, fCountKey, fByKeyN, 1), (n4, fCountKey, fByKeyN, (-1)), (n5, fWrite, fByVal, 1), (n6, fWrite, fByVal, (-1)), (n7, fCount, fByVal, 1), (n8, fCount, fByVal, (-1)), (n9, fLeave, fByVal, 1), (n10, fLeave, fByVal, (-1))]
theorem ords_yes {how : ByteArray} {fr fc : FuncId} {way : Int} (h : (how, fr, fc, way) ∈ ordT) : Maps.has ordsD (klO how) = true ∧ ∀ z, ordsD.atKey (klO how) z = .held (ordV fr fc way) := by
  unfold ordT at h
  simp only [List.mem_cons, Prod.mk.injEq, List.not_mem_nil, or_false] at h
  rcases h with ⟨rfl, rfl, rfl, rfl⟩ | ⟨rfl, rfl, rfl, rfl⟩ | ⟨rfl, rfl, rfl, rfl⟩ | ⟨rfl, rfl, rfl, rfl⟩ | ⟨rfl, rfl, rfl, rfl⟩ | ⟨rfl, rfl, rfl, rfl⟩ | ⟨rfl, rfl, rfl, rfl⟩ | ⟨rfl, rfl, rfl, rfl⟩ | ⟨rfl, rfl, rfl, rfl⟩ | ⟨rfl, rfl, rfl, rfl⟩ | ⟨rfl, rfl, rfl, rfl⟩
  all_goals exact ⟨rfl, fun _ => rfl⟩
theorem ords_no {how : ByteArray} (h : ∀ fr fc way, (how, fr, fc, way) ∉ ordT) : Maps.has ordsD (klO how) = false ∧ ∀ z, ordsD.atKey (klO how) z = z := by
  have ne : ∀ x ∈ ordT, how ≠ x.1 := fun x hx e => h x.2.1 x.2.2.1 x.2.2.2 (by rw [e]; exact hx)
  have hk : ∀ x ∈ ordT, klO how ≠ klO x.1 := fun x hx e => ne x hx (klO_inj e)
  have hh : Maps.has ordsD (klO how) = false := by
    unfold ordsD
    rw [Maps.has_put_other (hk (n10, fLeave, fByVal, (-1)) (by unfold ordT; simp))]
    rw [Maps.has_put_other (hk (n9, fLeave, fByVal, 1) (by unfold ordT; simp))]
    rw [Maps.has_put_other (hk (n8, fCount, fByVal, (-1)) (by unfold ordT; simp))]
    rw [Maps.has_put_other (hk (n7, fCount, fByVal, 1) (by unfold ordT; simp))]
    rw [Maps.has_put_other (hk (n6, fWrite, fByVal, (-1)) (by unfold ordT; simp))]
    rw [Maps.has_put_other (hk (n5, fWrite, fByVal, 1) (by unfold ordT; simp))]
    rw [Maps.has_put_other (hk (n4, fCountKey, fByKeyN, (-1)) (by unfold ordT; simp))]
    rw [Maps.has_put_other (hk (n3, fCountKey, fByKeyN, 1) (by unfold ordT; simp))]
    rw [Maps.has_put_other (hk (n2, fLeave, fByKey, (-1)) (by unfold ordT; simp))]
    rw [Maps.has_put_other (hk (n1, fLeave, fByKey, 1) (by unfold ordT; simp))]
    rw [Maps.has_put_other (hk (n0, fLeave, fAlike, 1) (by unfold ordT; simp))]
    rfl
  exact ⟨hh, fun z => Maps.atKey_of_not_has hh z⟩
theorem ords_look {W : World} {m : Nat} (h : W.ownsMap Tryz.prog 9 asO m 11 ordsD) {how : ByteArray} (hs : how.size ≤ maxLen) :
    (∀ fr fc way, (how, fr, fc, way) ∈ ordT → (Instr.lookup 80 (.map (some m)) (.string how) true).run Tryz.prog W = .ok (.tuple #[ordV fr fc way, .bool true]) W) ∧
    ((∀ fr fc way, (how, fr, fc, way) ∉ ordT) → (Instr.lookup 80 (.map (some m)) (.string how) true).run Tryz.prog W = .ok (.tuple #[.agg #[.nilFunc, .nilFunc, .int .i64 0], .bool false]) W) := by
  obtain ⟨u, ps, hr, hu⟩ := h.look_ok lawO Tryz.underlying80 (zeroO W) (zd := .held (.agg #[.nilFunc, .nilFunc, .int .i64 0])) (zp := []) rfl (keyO hs)
  unfold asO at hu
  simp only [Option.some.injEq, Prod.mk.injEq] at hu
  constructor
  · intro fr fc way hm
    obtain ⟨h1, h2⟩ := ords_yes hm
    rw [h2] at hu
    have e : u = ordV fr fc way := by have := hu.1; injection this
    rw [hr, h1, e]
  · intro hm
    obtain ⟨h1, h2⟩ := ords_no hm
    rw [h2] at hu
    have e : u = .agg #[.nilFunc, .nilFunc, .int .i64 0] := by have := hu.1; injection this
    rw [hr, h1, e]
end Go.Proofs.YtnbagigbaceonaaGreatDoor

namespace Go.Proofs.YtnbagigbaceonaaGreatDoor

/-- Without noughts at the top. -/
def trimL : List Nat → List Nat
  | [] => []
  | x :: l => if trimL l = [] then (if x = 0 then [] else [x]) else x :: trimL l
/-- The digits of a number: n of them, and noughts at the top taken away. -/
def digs (B : Nat) : Nat → Nat → List Nat
  | 0, _ => []
  | k + 1, n => n % B :: digs B k (n / B)
def dig (B n : Nat) : List Nat := trimL (digs B n n)
end Go.Proofs.YtnbagigbaceonaaGreatDoor

namespace Go.Proofs.YtnbagigbaceonaaGreatDoor

/-- All that is known of the numbers that are guessed by: the divisor's two top limbs, the dividend's three. -/
structure GuessOk (B P Dl v1 v0 Nl u2 u1 u0 : Nat) : Prop where
  hP : 0 < P
  hDl : Dl < P
  hNl : Nl < P
  hv0 : v0 < B
  hv1 : v1 < B
  hu0 : u0 < B
  htop : B ≤ 2 * v1
  hB2 : 2 ≤ B
  hless : Nl + P * (u0 + B * (u1 + B * u2)) < B * (Dl + P * (v0 + B * v1))
section
variable {B P Dl v1 v0 Nl u2 u1 u0 : Nat} (h : GuessOk B P Dl v1 v0 Nl u2 u1 u0)
include h
end

section
variable {B D A : Nat} {cur qs : List Nat} {i n : Nat}
end
end Go.Proofs.YtnbagigbaceonaaGreatDoor

namespace Go.Proofs.YtnbagigbaceonaaGreatDoor
open Go.RowKit

/-- Numbers as cells. -/
def nums (κ : IntKind) (xs : List Nat) : List Value := xs.map fun x : Nat => Value.int κ (x : Int)
theorem nums_len (κ : IntKind) (xs : List Nat) : (nums κ xs).length = xs.length := List.length_map _
theorem nums_set (κ : IntKind) (xs : List Nat) (k y : Nat) : (nums κ xs).set k (.int κ (y : Nat)) = nums κ (xs.set k y) := by
  unfold nums; rw [List.map_set]
theorem nums_append (κ : IntKind) (xs ys : List Nat) : nums κ (xs ++ ys) = nums κ xs ++ nums κ ys := List.map_append
section
variable {κ : IntKind} {w w' : World} {g o : Nat} {t : TypeId} {L R : List Value} {xs : List Nat}
end
theorem grown_refl (w : World) (row : Option Nat) : w.grownBy w row := ⟨rfl, rfl, rfl, Nat.le_refl _, fun _ _ _ => rfl⟩
theorem grown_trans {a b c : World} {row : Option Nat} (h : a.grownBy b row) (k : b.grownBy c row) : a.grownBy c row :=
  ⟨k.os.trans h.os, k.tape.trans h.tape, k.output.trans h.output, Nat.le_trans h.size k.size, fun i hi hne => (k.block i (Nat.lt_of_lt_of_le hi h.size) hne).trans (h.block i hi hne)⟩
theorem grown_set {a w : World} {g j : Nat} (h : a.grownBy w (some g)) (u : Value) : a.grownBy (w.setCell ⟨g, j, none⟩ u) (some g) :=
  grown_trans h ⟨rfl, rfl, rfl, by simp [World.setCell], fun k _ hk => heap_setCell_other w ⟨g, j, none⟩ k u (fun e => hk (by simp [e]))⟩
/-- A slice that is read. -/
def Rd (κ : IntKind) (w : World) (A : Option Addr) (xs : List Nat) : Prop :=
  ∀ j (_ : j < xs.length), ∃ g o, A = some ⟨g, o, none⟩ ∧ w.cell? ⟨g, o + j, none⟩ = some (.int κ (xs[j] : Nat))
/-- It does not lie in block g. -/
def Off (A : Option Addr) (g : Nat) : Prop := ∀ a, A = some a → a.block ≠ g
section
variable {κ : IntKind} {w w' : World} {A : Option Addr} {xs : List Nat}
theorem Rd.nil : Rd κ w A [] := fun _ h => by simp at h
theorem Rd.at_ (h : Rd κ w A xs) (hx : xs ≠ []) : ∃ g o, A = some ⟨g, o, none⟩ ∧ ∀ j (_ : j < xs.length), w.cell? ⟨g, o + j, none⟩ = some (.int κ (xs[j] : Nat)) := by
  obtain ⟨g, o, rfl, _⟩ := h 0 (List.length_pos_iff.2 hx)
  refine ⟨g, o, rfl, fun j hj => ?_⟩
  obtain ⟨g', o', e, hc⟩ := h j hj
  cases e
  exact hc
theorem Rd.of {g o : Nat} (h : ∀ j (_ : j < xs.length), w.cell? ⟨g, o + j, none⟩ = some (.int κ (xs[j] : Nat))) : Rd κ w (some ⟨g, o, none⟩) xs := fun j hj => ⟨g, o, rfl, h j hj⟩
theorem Rd.kept (h : Rd κ w A xs) {g : Nat} (hg : w.grownBy w' (some g)) (hne : Off A g) : Rd κ w' A xs := fun j hj => by
  obtain ⟨g', o, e, hc⟩ := h j hj
  exact ⟨g', o, e, hg.cell hc (by intro e2; cases e2; exact hne _ e rfl)⟩
theorem Rd.below (h : Rd κ w A xs) (hb : Below w.heap.size w w') : Rd κ w' A xs := fun j hj => by
  obtain ⟨g', o, e, hc⟩ := h j hj
  exact ⟨g', o, e, (hb.cell (World.block_lt_of_cell? w _ hc)).trans hc⟩
theorem Rd.take (h : Rd κ w A xs) (n : Nat) : Rd κ w A (xs.take n) := fun j hj => by
  have hj2 : j < xs.length := by rw [List.length_take] at hj; omega
  obtain ⟨g, o, e, hc⟩ := h j hj2
  exact ⟨g, o, e, by rw [hc, List.getElem_take]⟩
/-- What lies in old memory is not in a new block. -/
theorem Rd.off (h : Rd κ w A xs) (hx : xs ≠ []) {g : Nat} (hg : w.heap.size ≤ g) : Off A g := by
  obtain ⟨g', o, rfl, hc⟩ := h.at_ hx
  intro a e
  cases e
  have := World.block_lt_of_cell? w _ (hc 0 (List.length_pos_iff.2 hx))
  show g' ≠ g
  exact fun e => by subst e; exact absurd this (by simpa using hg)
end
/-- A row of the call's own, of numbers. -/
def Own (κ : IntKind) (w : World) (B : Nat) (t : TypeId) (v : Value) (xs : List Nat) : Prop := w.ownsRow B t 1 v xs.length (nums κ xs)
end Go.Proofs.YtnbagigbaceonaaGreatDoor

namespace Go.Proofs.YtnbagigbaceonaaGreatDoor
open Go.RowKit

theorem info_i64 : (Tryz.prog.info? 3).map (fun i => (i.zero, i.size, i.bytes)) = some (some (.int .i64 0), 1, 8) := by kernel_rfl

section
variable {κ : IntKind} {w w' : World} {B g n cap : Nat} {t : TypeId} {v : Value} {A : Option Addr} {xs : List Nat}
theorem Own.nil (w : World) (B : Nat) (t : TypeId) : Own κ w B t (.slice none 0 0) [] := World.ownsRow_nil _ _ _ _
theorem Own.form (h : Own κ w B t v xs) (hx : 0 < xs.length) : ∃ g cap, v = .slice (some ⟨g, 0, none⟩) xs.length cap ∧ B ≤ g ∧ xs.length ≤ cap ∧ cap ≤ maxLen := by
  rcases h.2 with ⟨_, h0⟩ | ⟨g, cap, cur, rfl, hb, _, h1, h2, _⟩
  · omega
  · exact ⟨g, cap, rfl, hb, h1, h2⟩
theorem Own.forms (h : Own κ w B t v xs) : (v = .slice none 0 0 ∧ xs = []) ∨ ∃ g cap, v = .slice (some ⟨g, 0, none⟩) xs.length cap ∧ B ≤ g ∧ xs.length ≤ cap ∧ cap ≤ maxLen := by
  rcases h.2 with ⟨h1, h0⟩ | ⟨g, cap, cur, rfl, hb, _, h1, h2, _⟩
  · exact .inl ⟨h1, List.eq_nil_of_length_eq_zero h0⟩
  · exact .inr ⟨g, cap, rfl, hb, h1, h2⟩
/-- As a slice: the address is a variable. -/
theorem Own.slice (h : Own κ w B t v xs) : ∃ A cap, v = .slice A xs.length cap ∧ xs.length ≤ cap ∧ cap ≤ maxLen := by
  rcases h.forms with ⟨rfl, rfl⟩ | ⟨g, cap, rfl, _, h1, h2⟩
  · exact ⟨none, 0, rfl, Nat.le_refl _, Nat.zero_le _⟩
  · exact ⟨_, cap, rfl, h1, h2⟩
theorem Own.cell (h : Own κ w B t (.slice (some ⟨g, 0, none⟩) n cap) xs) (k : Nat) (hk : k < xs.length) : w.cell? ⟨g, k, none⟩ = some (.int κ (xs[k] : Nat)) := by
  have hn : n = xs.length := by
    rcases h.form (by omega) with ⟨_, _, e, _⟩
    cases e; rfl
  subst hn
  rw [World.ownsRow.cellAt h k (by omega), nums, List.getElem?_map, List.getElem?_eq_getElem hk]
  rfl
theorem Own.frozen (h : Own κ w B t (.slice (some ⟨g, 0, none⟩) xs.length cap) xs) (k : Nat) : w.frozen? ⟨g, k, none⟩ = false := World.ownsRow.frozenAt h k
theorem Own.set (h : Own κ w B t (.slice (some ⟨g, 0, none⟩) n cap) xs) (hn : n = xs.length) (k y : Nat) : Own κ (w.setCell ⟨g, k, none⟩ (.int κ (y : Nat))) B t (.slice (some ⟨g, 0, none⟩) n cap) (xs.set k y) := by
  subst hn
  have := (World.ownsRow.stored h k (.int κ (y : Nat))).1
  rw [nums_set] at this
  unfold Own
  rw [List.length_set]
  exact this
theorem Own.rd (h : Own κ w B t (.slice A n cap) xs) : Rd κ w A xs := fun j hj => by
  obtain ⟨g, c, e, _⟩ := h.form (by omega)
  cases e
  exact ⟨g, 0, rfl, by rw [Nat.zero_add]; exact h.cell j hj⟩
theorem Own.len (h : Own κ w B t (.slice A n cap) xs) : n = xs.length := by
  rcases h.forms with ⟨e, rfl⟩ | ⟨g, c, e, _⟩
  · cases e; rfl
  · cases e; rfl
theorem Own.row (h : Own κ w B t v xs) {n : Nat} (hn : xs.length = n) : w.ownsRow B t 1 v n (nums κ xs) := by subst hn; exact h
theorem Own.kept (h : Own κ w B t v xs) {row : Option Nat} (hg : w.grownBy w' row) (hne : v.ownBlock = none ∨ v.ownBlock ≠ row) : Own κ w' B t v xs := World.ownsRow.kept h hg hne
theorem Own.drew (h : Own κ w B t v xs) : Own κ w.drew B t v xs := h
theorem Own.alloc (h : Own κ w B t v xs) (o : Obj) : Own κ (w.alloc o) B t v xs := World.ownsRow.alloc h o
theorem Own.mono (h : Own κ w B t v xs) {B' : Nat} (hb : B' ≤ B) : Own κ w B' t v xs := ⟨h.1, h.2.imp_right fun ⟨g, cap, cur, e, hB, rest⟩ => ⟨g, cap, cur, e, Nat.le_trans hb hB, rest⟩⟩
theorem Own.below (h : Own κ w B t v xs) (hb : Below w.heap.size w w') : Own κ w' B t v xs := by
  refine ⟨h.1, ?_⟩
  rcases h.2 with h0 | ⟨g, cap, cur, rfl, hB, hg, rest⟩
  · exact .inl h0
  · exact .inr ⟨g, cap, cur, rfl, hB, (hb.block g (Array.getElem?_eq_some_iff.1 hg).1).trans hg, rest⟩
theorem Own.lt (h : Own κ w B t (.slice (some ⟨g, 0, none⟩) n cap) xs) : B ≤ g ∧ g < w.heap.size := World.ownsRow.lt h g rfl
theorem Own.take (h : Own κ w B t (.slice A n cap) xs) (m : Nat) (hm : m ≤ xs.length) : Own κ w B t (.slice A m cap) (xs.take m) := by
  have hl : (xs.take m).length = m := by rw [List.length_take]; omega
  unfold Own
  rw [hl]
  rcases h.2 with ⟨e, h0⟩ | ⟨g, c, cur, e, hB, hg, h1, h2, h3, h4⟩
  · cases e
    obtain rfl : m = 0 := by omega
    exact World.ownsRow_nil _ _ _ _
  · cases e
    refine ⟨by rw [nums_len, hl]; omega, .inr ⟨g, cap, cur, rfl, hB, hg, by omega, h2, h3, ?_⟩⟩
    have := congrArg (List.take m) h4
    rw [List.take_take, Nat.mul_one, Nat.min_eq_left (by omega)] at this
    rw [Nat.mul_one, this, nums, nums, List.map_take]
theorem Own.append {k m : Nat} {ys : List Nat} (h : w.ownsRow B t 1 v (k + m) (nums κ xs ++ nums κ ys)) (hk : k = xs.length) (hm : m = ys.length) : Own κ w B t v (xs ++ ys) := by
  subst hk
  subst hm
  unfold Own
  rw [List.length_append, nums_append]
  exact h
theorem Own.off (h : Own κ w B t v xs) {r : Nat} (hv : v.ownBlock ≠ some r) (hA : v = .slice A n cap) : Off A r := by
  subst hA
  intro a e
  subst e
  exact fun e2 => hv (by simp [Value.ownBlock, e2])
end
end Go.Proofs.YtnbagigbaceonaaGreatDoor

namespace Go.Proofs.YtnbagigbaceonaaGreatDoor
open Go.RowKit Go.Lib Go.Maps

/-- An entry's cells. -/
def enC (d : Dat) : List Value := [.string d.key, .int .i64 d.kind, .float .f64 d.num, .string d.str, .bool d.sub]
/-- A slice of entries that is read. -/
def RdE (W : World) (A : Option Addr) (es : List Dat) : Prop := ∀ j (_ : j < es.length), ∃ b off, A = some ⟨b, off, none⟩ ∧ ∀ i, i < 5 → W.cell? ⟨b, off + j * 5 + i, none⟩ = (enC es[j])[i]?
theorem RdE.below {W W' : World} {A : Option Addr} {es : List Dat} {B : Nat} (h : RdE W A es) (hB : W.heap.size ≤ B) (hb : Below B W W') : RdE W' A es := fun j hj => by
  obtain ⟨b, off, e, hc⟩ := h j hj
  refine ⟨b, off, e, fun i hi => ?_⟩
  have h1 := hc i hi
  have h2 : (enC es[j])[i]? = some ((enC es[j])[i]'(by simpa [enC] using hi)) := List.getElem?_eq_getElem _
  have hl := World.block_lt_of_cell? W _ (h1.trans h2)
  exact (hb.cell (p := ⟨b, off + j * 5 + i, none⟩) (by simp at hl ⊢; omega)).trans h1
/-- What making ready leaves of an item: rd of what it was. -/
def Readies (w0 : World) (B : Nat) (fr : FuncId) (conv : ByteArray) (n : Nat) (es rd : Nat → Dat) : Prop :=
  ∀ W b a, a < n → Below B w0 W → Blk W b (itC a (es a)) 87 → Calls Tryz.prog fr #[iptr b, .string conv] W fun e w' => (∃ r, e = .returned r) ∧ Blk w' b (itC a (rd a)) 87 ∧ W.grownBy w' (some b)
/-- What the order's comparison answers of two items. -/
def CmpOf (w0 : World) (B : Nat) (fc : FuncId) (n : Nat) (d : Nat → Dat) (cv : Nat → Nat → Int) : Prop :=
  ∀ W a b p q, a < n → b < n → Below B w0 W → Blk W p (itC a (d a)) 87 → Blk W q (itC b (d b)) 87 → Calls Tryz.prog fc #[iptr p, iptr q] W fun e w' => e = .returned (.int .i64 (cv a b)) ∧ Below W.heap.size W w'
theorem CmpOf.compares {w0 : World} {B : Nat} {fc : FuncId} {n N : Nat} {ib : Nat → Nat} {d : Nat → Dat} {cv : Nat → Nat → Int} (h : CmpOf w0 B fc n d cv) (hN : N ≤ n) : Compares w0 B fc N ib d cv :=
  fun W a b ha hb hB h1 h2 => h W a b _ _ (by omega) (by omega) hB h1 h2
/-- One item more, in a block of its own. -/
theorem HeapAt.more {w0 wz W : World} {B g : Nat} {fr fc : FuncId} {way : Int} {N x : Nat} {ib : Nat → Nat} {d : Nat → Dat} {lt : Nat → Nat → Bool} (h : HeapAt w0 wz B g fr fc way N N ib d lt (fun a => a < N) W) (hx : Blk W x (itC N (d N)) 87) :
    HeapAt w0 wz B g fr fc way N (N + 1) (fun a => if a = N then x else ib a) d lt (fun a => a < N) W := by
  obtain ⟨v, f, hs, hp, hh⟩ := h
  refine ⟨v, f, ⟨⟨hs.que.blk, ?_, hs.que.ne⟩, fun a ha => ?_, hs.bel, hs.lim, hs.old, hs.kept⟩, hp, hh⟩
  · rw [ptrs_congr (q := fun k => ib (f k)) (fun k hk => by
      have : f k < N := (hh.on _).2 ⟨k, hk, rfl⟩
      show (if f k = N then x else ib (f k)) = ib (f k)
      rw [if_neg (by omega)])]
    exact hs.que.row
  · by_cases e : a = N
    · subst e
      show Blk W (if a = a then x else ib a) _ _
      rw [if_pos rfl]
      exact hx
    · show Blk W (if a = N then x else ib a) _ _
      rw [if_neg e]
      exact hs.its a (by omega)
theorem HeapAt.below {w0 wz W W' : World} {B g : Nat} {fr fc : FuncId} {way : Int} {n N : Nat} {ib : Nat → Nat} {d : Nat → Dat} {lt : Nat → Nat → Bool} {S : Nat → Prop} (h : HeapAt w0 wz B g fr fc way n N ib d lt S W) (hb : Below W.heap.size W W') : HeapAt w0 wz B g fr fc way n N ib d lt S W' := by
  obtain ⟨v, f, hs, hp, hh⟩ := h
  exact ⟨v, f, hs.below hb, hp, hh⟩
/-- Only block x, and what is new, has turned, and x is none of the queue's. -/
theorem HeapAt.aside {w0 wz W W' : World} {B g x : Nat} {fr fc : FuncId} {way : Int} {n N : Nat} {ib : Nat → Nat} {d : Nat → Dat} {lt : Nat → Nat → Bool} {S : Nat → Prop} (h : HeapAt w0 wz B g fr fc way n N ib d lt S W) (hg : W.grownBy W' (some x)) (hx : B ≤ x) (hn : ∀ a, a < N → ib a ≠ x) {cs : Array Value} (hb : Blk W x cs 87) : HeapAt w0 wz B g fr fc way n N ib d lt S W' := by
  obtain ⟨v, f, hs, hp, hh⟩ := h
  refine ⟨v, f, ⟨⟨hs.que.blk.grown hg (fun e => hs.que.blk.ne hb (by decide) (by injection e)), World.ownsRow.kept hs.que.row hg (Or.inr fun e => hs.que.apart hb (by decide) e.symm), hs.que.ne⟩, fun a ha => (hs.its a ha).grown hg (fun e => hn a ha (by injection e)), hs.bel.grown hg hs.lim (fun k e => by injection e with e; omega), Nat.le_trans hs.lim hg.size, hs.old, fun b cs t h1 h2 h3 k => (hs.kept b cs t h1 h2 h3 k).grown hg (fun e => (hs.kept b cs t h1 h2 h3 k).ne hb h3 (by injection e))⟩, hp, hh⟩
theorem HeapAt.base {w0 wz W : World} {B g : Nat} {fr fc : FuncId} {way : Int} {n N : Nat} {ib : Nat → Nat} {d : Nat → Dat} {lt : Nat → Nat → Bool} {S : Nat → Prop} (h : HeapAt w0 wz B g fr fc way n N ib d lt S W) : HeapAt w0 W B g fr fc way n N ib d lt S W := by
  obtain ⟨v, f, hs, hp, hh⟩ := h
  exact ⟨v, f, hs.base, hp, hh⟩
theorem HeapAt.same {w0 wz W : World} {B g : Nat} {fr fc : FuncId} {way : Int} {n N : Nat} {ib : Nat → Nat} {d : Nat → Dat} {lt : Nat → Nat → Bool} {S S' : Nat → Prop} (h : HeapAt w0 wz B g fr fc way n N ib d lt S W) (e : ∀ a, S a ↔ S' a) : HeapAt w0 wz B g fr fc way n N ib d lt S' W := by
  obtain ⟨v, f, hs, hp, hh⟩ := h
  exact ⟨v, f, hs, hp, ⟨hh.inj, fun a => (e a).symm.trans (hh.on a)⟩⟩
theorem HeapAt.keeps {w0 wz W : World} {B g : Nat} {fr fc : FuncId} {way : Int} {n N : Nat} {ib : Nat → Nat} {d : Nat → Dat} {lt : Nat → Nat → Bool} {S : Nat → Prop} (h : HeapAt w0 wz B g fr fc way n N ib d lt S W) {b : Nat} {cs : Array Value} {t : TypeId} (k : Blk wz b cs t) (h1 : t ≠ 84) (h2 : t ≠ 85) (h3 : t ≠ 87) : Blk W b cs t := by
  obtain ⟨v, f, hs, _⟩ := h
  exact hs.kept b cs t h1 h2 h3 k
theorem HeapAt.facts {w0 wz W : World} {B g : Nat} {fr fc : FuncId} {way : Int} {n N : Nat} {ib : Nat → Nat} {d : Nat → Dat} {lt : Nat → Nat → Bool} {S : Nat → Prop} (h : HeapAt w0 wz B g fr fc way n N ib d lt S W) : Below B w0 W ∧ B ≤ W.heap.size ∧ B ≤ g ∧ g < W.heap.size ∧ ∀ a, a < N → ib a < W.heap.size := by
  obtain ⟨v, f, hs, _⟩ := h
  exact ⟨hs.bel, hs.lim, hs.old, hs.que.blk.lt, fun a ha => (hs.its a ha).lt⟩
def lenV : Value → Nat | .slice _ n _ => n | _ => 0
theorem srt_store_float (a : Addr) (n : Nat) (m : Mode) (w : World) : (store a (.float .f64 n) m).run Tryz.prog w = stored Tryz.prog w a (.float .f64 n) m := run_store _ w a _ m rfl
theorem row_keep {W W' : World} {B n : Nat} {t : TypeId} {v : Value} {xs : List Value} (h : W.ownsRow B t 1 v n xs) (hk : ∀ b cs, Blk W b cs t → Blk W' b cs t) : W'.ownsRow B t 1 v n xs := by
  refine ⟨h.1, ?_⟩
  rcases h.2 with h0 | ⟨q, cap, cur, rfl, hB, hg, rest⟩
  · exact .inl h0
  · exact .inr ⟨q, cap, cur, rfl, hB, (hk q cur ⟨hg⟩).row, rest⟩
theorem row_type {W : World} {B n b : Nat} {t : TypeId} {v : Value} {xs : List Value} (h : W.ownsRow B t 1 v n xs) (e : v.ownBlock = some b) : B ≤ b ∧ ∃ cs, Blk W b cs t := by
  rcases h.2 with ⟨rfl, _⟩ | ⟨q, cap, cur, rfl, hB, hg, _⟩
  · cases e
  · have : q = b := by
      have : some q = some b := e
      injection this
    subst this
    exact ⟨hB, cur, ⟨hg⟩⟩
/-- A row of another type, and what is new, has turned. -/
theorem Stt.off {W W' w0 wz : World} {B g n N : Nat} {fr fc : FuncId} {way : Int} {v u : Value} {f ib : Nat → Nat} {d : Nat → Dat} {t : TypeId} {k : Nat} {xs : List Value} (h : Stt W w0 wz B g fr fc way v n N f ib d) (hr : W.ownsRow B t 1 u k xs) (h1 : t ≠ 84) (h2 : t ≠ 85) (h3 : t ≠ 87) (hg : W.grownBy W' u.ownBlock) : Stt W' w0 W' B g fr fc way v n N f ib d := by
  have far : ∀ b cs s, s ≠ t → Blk W b cs s → some b ≠ u.ownBlock := fun b cs s hs hb e => by
    obtain ⟨_, ds, hd⟩ := row_type hr e.symm
    exact hb.ne hd hs rfl
  refine ⟨⟨h.que.blk.grown hg (far _ _ _ h1.symm h.que.blk), ?_, h.que.ne⟩, fun a ha => (h.its a ha).grown hg (far _ _ _ h3.symm (h.its a ha)), h.bel.grown hg h.lim (fun k e => (row_type hr e).1), Nat.le_trans h.lim hg.size, h.old, fun _ _ _ _ _ _ k => k⟩
  refine World.ownsRow.kept h.que.row hg ?_
  rcases hv : v.ownBlock with _ | b
  · exact Or.inl rfl
  · obtain ⟨_, cs, hb⟩ := row_type h.que.row hv
    exact Or.inr (far b cs _ h2.symm hb)
/-- What Order answers. -/
def OrdEnd (w : World) (n : Nat) (lt : Nat → Nat → Bool) (e : Ending) (w' : World) : Prop :=
  ∃ v out, e = .returned (.tuple #[v, .int .i64 0]) ∧ InOrder lt n out ∧ Own .i64 w' w.heap.size 3 v out ∧ Below w.heap.size w w'
set_option maxRecDepth 100000 in
set_option maxHeartbeats 4000000 in
theorem order_yes {A : Option Addr} {cap : Nat} {es : List Dat} {how conv : ByteArray} {w : World} {fr fc : FuncId} {way : Int} {rd : Nat → Dat} {cv : Nat → Nat → Int} (hh : (how, fr, fc, way) ∈ ordT) (hs : how.size ≤ maxLen) (hl : es.length ≤ 1000) (hR : RdE w A es)
    (o : Ord (ltV cv way)) (er : Enters fr) (ec : Enters fc) (hr : Readies w w.heap.size fr conv es.length (fun a => es.getD a ⟨⟨#[]⟩, 0, 0, ⟨#[]⟩, false⟩) rd) (hc : CmpOf w w.heap.size fc es.length rd cv) :
    Calls Tryz.prog 25 #[.slice A es.length cap, .string how, .string conv] w (OrdEnd w es.length (ltV cv way)) := by
  have CO := Lib.hid (orders_any w)
  have HH := Lib.hid hh
  have HS := Lib.hid hs
  have HR := Lib.hid hR
  have HO := Lib.hid o
  have HER := Lib.hid er
  have HEC := Lib.hid ec
  have HRD := Lib.hid hr
  have HCM := Lib.hid hc
  obtain ⟨n, hn⟩ : ∃ n, es.length = n := ⟨_, rfl⟩
  obtain ⟨B, hB⟩ : ∃ B, w.heap.size = B := ⟨_, rfl⟩
  rw [hn] at hl HRD HCM ⊢
  unfold OrdEnd
  rw [hB] at CO HRD HCM ⊢
  have HN := Lib.hid hn
  have HB := Lib.hid hB
  clear hh hs hR o er ec hr hc hn hB
  go_enter Tryz.func25, Tryz.ntmps25
  go_wp2_with fail
  refine CO.out.mono ?_
  rintro e W1 ⟨rfl, hm, hb⟩
  have hlk := (ords_look hm HS.out).1 _ _ _ HH.out
  have hB1 : B ≤ W1.heap.size := by have := hb.size; have := HB.out; omega
  have hb2 := ((hb.mono (show B ≤ B from Nat.le_refl _)).alloc hB1 (.cells #[fval fr, fval fc, .int .i64 way] 78)).alloc (by simp; omega) (.cells #[fval fr, fval fc, .int .i64 way, .slice none 0 0] 84)
  have q2 := Blk.new (W1.alloc (.cells #[fval fr, fval fc, .int .i64 way] 78)) #[fval fr, fval fc, .int .i64 way, .slice none 0 0] 84
  have o2 := (Blk.new W1 #[fval fr, fval fc, .int .i64 way] 78).alloc (.cells #[fval fr, fval fc, .int .i64 way, .slice none 0 0] 84)
  rw [World.size_alloc] at q2
  clear hm hb CO HH HS
  go_wp2_with fail
  clear hlk
  obtain ⟨g, hg⟩ : ∃ g, W1.heap.size = g := ⟨_, rfl⟩
  obtain ⟨W2, hW2⟩ : ∃ W2, (W1.alloc (.cells #[fval fr, fval fc, .int .i64 way] 78)).alloc (.cells #[fval fr, fval fc, .int .i64 way, .slice none 0 0] 84) = W2 := ⟨_, rfl⟩
  rw [hW2, hg] at q2 o2
  rw [hg] at hB1
  rw [hW2] at hb2
  rw [hg]
  have e2 := hW2
  clear hg
  rw [show (W1.alloc (Obj.cells #[Value.func (Fn.func fr) #[] #[], Value.func (Fn.func fc) #[] #[], Value.int IntKind.i64 way] 78)).alloc (Obj.cells #[Value.func (Fn.func fr) #[] #[], Value.func (Fn.func fc) #[] #[], Value.int IntKind.i64 way, Value.slice none 0 0] 84) = W2 from hW2]
  have hs2 : B ≤ W2.heap.size := by have := q2.lt; omega
  have h0 : HeapAt w W2 B (g + 1) fr fc way 0 0 (fun _ => 0) rd (ltV cv way) (fun a => a < 0) W2 :=
    ⟨.slice none 0 0, fun _ => 0, ⟨⟨q2, World.ownsRow_nil _ _ _ _, by intro e; cases e⟩, fun a ha => absurd ha (Nat.not_lt_zero _), hb2, hs2, by omega, fun _ _ _ _ _ _ k => k⟩, fun k h1 h2 => absurd h2 (Nat.not_lt_zero _), ⟨fun i j h1 => absurd h1 (Nat.not_lt_zero _), fun a => ⟨fun h => absurd h (Nat.not_lt_zero _), fun ⟨i, h, _⟩ => absurd h (Nat.not_lt_zero _)⟩⟩⟩
  have H0 := Lib.hid h0
  have HO2 := Lib.hid o2
  clear h0 o2 q2 hb2 e2 hW2 hs2
  go_loopw [27] (fun iv wr => ∃ k ib, k ≤ n ∧ iv = .int .i64 ((k : Nat) : Int) ∧ HeapAt w W2 B (g + 1) fr fc way k k ib rd (ltV cv way) (fun a => a < k) wr) (fun iv _ => n - (RowKit.intOf iv).toNat)
  case atStart => exact ⟨0, _, Nat.zero_le _, rfl, H0.out⟩
  case round =>
    obtain ⟨k, ib, hk, rfl, h⟩ := hrel
    obtain ⟨f1, f2, f3, f4, f5⟩ := h.facts
    have ho := h.keeps HO2.out (by decide) (by decide) (by decide)
    have H := Lib.hid h
    have F5 := Lib.hid f5
    have F1 := Lib.hid f1
    clear h f5 f1
    by_cases hlt : k < n
    · obtain ⟨b, off, hA, hcl⟩ := HR.out k (by rw [HN.out]; exact hlt)
      subst hA
      obtain ⟨dk, hdk⟩ : ∃ dk, es[k]'(by rw [HN.out]; exact hlt) = dk := ⟨_, rfl⟩
      rw [hdk] at hcl
      have hcw : ∀ i, i < 5 → wr.cell? ⟨b, off + k * 5 + i, none⟩ = (enC dk)[i]? := fun i hi => by
        have h1 := hcl i hi
        have h2 : (enC dk)[i]? = some ((enC dk)[i]'(by simpa [enC] using hi)) := List.getElem?_eq_getElem _
        have hl := World.block_lt_of_cell? w _ (h1.trans h2)
        rw [HB.out] at hl
        exact (F1.out.cell (p := ⟨b, off + k * 5 + i, none⟩) hl).trans h1
      have k0 : wr.cell? ⟨b, off + k * 5, none⟩ = some (.string dk.key) := hcw 0 (by omega)
      have k1 : wr.cell? ⟨b, off + k * 5 + 1, none⟩ = some (.int .i64 dk.kind) := hcw 1 (by omega)
      have k2 : wr.cell? ⟨b, off + k * 5 + 2, none⟩ = some (.float .f64 dk.num) := hcw 2 (by omega)
      have k3 : wr.cell? ⟨b, off + k * 5 + 3, none⟩ = some (.string dk.str) := hcw 3 (by omega)
      have k4 : wr.cell? ⟨b, off + k * 5 + 4, none⟩ = some (.bool dk.sub) := hcw 4 (by omega)
      have hge : es.getD k ⟨⟨#[]⟩, 0, 0, ⟨#[]⟩, false⟩ = dk := by
        rw [← hdk, List.getD_eq_getElem?_getD, List.getElem?_eq_getElem (by rw [HN.out]; exact hlt)]
        rfl
      have HGE := Lib.hid hge
      have g0 := (ho.alloc (.cells #[.string dk.key, .int .i64 dk.kind, .float .f64 dk.num, .string dk.str, .bool dk.sub] 46)).alloc (.cells #[.int .i64 (k : Int), .string dk.key, .int .i64 dk.kind, .float .f64 dk.num, .string dk.str, .bool dk.sub] 87)
      have c0 := g0.cell 0
      have hst := srt_store_float
      have her := HER.out
      clear hcl hcw hdk hge g0 ho
      go_wp2_with fail
      have bW := ((Below.refl wr.heap.size wr).alloc (Nat.le_refl _) (.cells #[.string dk.key, .int .i64 dk.kind, .float .f64 dk.num, .string dk.str, .bool dk.sub] 46)).alloc (by simp) (.cells #[.int .i64 (k : Int), .string dk.key, .int .i64 dk.kind, .float .f64 dk.num, .string dk.str, .bool dk.sub] 87)
      have xW := Blk.new (wr.alloc (.cells #[.string dk.key, .int .i64 dk.kind, .float .f64 dk.num, .string dk.str, .bool dk.sub] 46)) #[.int .i64 (k : Int), .string dk.key, .int .i64 dk.kind, .float .f64 dk.num, .string dk.str, .bool dk.sub] 87
      rw [World.size_alloc] at xW
      have hA3 := H.out.below bW
      obtain ⟨W3, hW3⟩ : ∃ W3, (wr.alloc (.cells #[.string dk.key, .int .i64 dk.kind, .float .f64 dk.num, .string dk.str, .bool dk.sub] 46)).alloc (.cells #[.int .i64 (k : Int), .string dk.key, .int .i64 dk.kind, .float .f64 dk.num, .string dk.str, .bool dk.sub] 87) = W3 := ⟨_, rfl⟩
      obtain ⟨x, hx⟩ : ∃ x, wr.heap.size + 1 = x := ⟨_, rfl⟩
      rw [hW3] at xW hA3
      rw [hx] at xW
      rw [hW3, hx]
      have hBx : B ≤ x := by omega
      have hix : ∀ a, a < k → ib a ≠ x := fun a ha e => by have := F5.out a ha; omega
      have hBW := hA3.facts.1
      clear k0 k1 k2 k3 k4 c0 hst her hW3 hx bW
      have HA3 := Lib.hid hA3
      have XW := Lib.hid xW
      refine (HRD.out W3 x k hlt hBW (by show Blk W3 x (itC k (es.getD k ⟨⟨#[]⟩, 0, 0, ⟨#[]⟩, false⟩)) _; rw [HGE.out]; exact XW.out)).mono ?_
      rintro e W4 ⟨⟨r, rfl⟩, hx4, hg4⟩
      have hA4 := (HA3.out.aside hg4 hBx hix XW.out).more hx4
      obtain ⟨ib2, hi2, hh2⟩ : ∃ ib2 : Nat → Nat, ib2 k = x ∧ HeapAt w W2 B (g + 1) fr fc way k (k + 1) ib2 rd (ltV cv way) (fun a => a < k) W4 := ⟨fun a => if a = k then x else ib a, if_pos rfl, hA4⟩
      have CP := hPush_any (x := k) HO.out HEC.out (HCM.out.compares (N := k + 1) (ib := ib2) (by omega)) (fun a (ha : a < k) => by omega) (by omega) hh2 (by omega) (by omega)
      rw [hi2] at CP
      have CP := Lib.hid CP
      have HS4 := Lib.hid hh2
      clear hx4 hg4 hA4 hh2 hA3 xW hix hBW hi2 HA3 XW H F5 F1
      go_wp2_with fail
      refine CP.out.mono ?_
      rintro e W5 ⟨⟨r5, rfl⟩, h5⟩
      have H5 := Lib.hid (h5.same (S' := fun a => a < k + 1) (fun a => by constructor <;> intro h <;> omega))
      clear h5 CP HS4
      go_wp2_with fail
      go_roundw
      case rel => exact ⟨k + 1, ib2, by omega, by go_num, H5.out⟩
      case measure => simp [RowKit.intOf]; omega
    · obtain rfl : k = n := by omega
      have hmk : ∀ W : World, (Instr.makeSlice 62 (.int .i64 0) (.int .i64 (k : Int))).run Tryz.prog W = .ok (.slice (some ⟨W.heap.size, 0, none⟩) 0 k) (W.alloc (.cells (madeCells #[Value.int .i64 0] k) 3)) := fun W => by
        obtain ⟨i0, hi, hz0, hz1, hz2⟩ := info_parts info_i64
        have := run_make (P := Tryz.prog) W 62 3 i0 (.int .i64 0) Tryz.underlying62 hi hz0 .i64 .i64 0 (k : Int) (by omega) (by omega) (by rw [hz2]; omega) (by omega)
        rw [hz1, Int.toNat_natCast, Nat.mul_one] at this
        exact this
      have hown : (wr.alloc (.cells (madeCells #[Value.int .i64 0] k) 3)).ownsRow B 3 1 (.slice (some ⟨wr.heap.size, 0, none⟩) 0 k) 0 [] := World.ownsRow_made wr _ k f2 (by unfold maxLen; omega) (by rw [size_madeCells]; simp)
      have hA3 := (H.out.below ((Below.refl wr.heap.size wr).alloc (Nat.le_refl _) (.cells (madeCells #[Value.int .i64 0] k) 3)))
      have HA3 := Lib.hid hA3.base
      have HOW := Lib.hid hown
      clear hA3 hown ho H F5 F1 hlt f3 f4
      go_wp2_with fail
      obtain ⟨W3, hW3⟩ : ∃ W3, wr.alloc (.cells (madeCells #[Value.int .i64 0] k) 3) = W3 := ⟨_, rfl⟩
      rw [hW3] at HA3 HOW
      rw [hW3]
      clear hW3 hmk f2
      go_loopw [14] (fun sv w2 => ∃ (lv : Value) (m : Nat) (out : List Nat) (q : Value) (f : Nat → Nat), lv = sv ∧ Own .i64 w2 B 3 lv out ∧ Stt w2 w w2 B (g + 1) fr fc way q m k f ib rd ∧ Heap (ltV cv way) f m ∧ Taken (ltV cv way) k out f m) (fun lv _ => k - lenV lv)
      case atStart =>
        obtain ⟨q, f, hs, hp, hh⟩ := HA3.out
        exact ⟨_, k, [], q, f, rfl, HOW.out, hs, hp, Taken.start hh⟩
      case round =>
        clear HA3 HOW
        obtain ⟨lv, m, out, q, f, rfl, hO, hs, hp, ht⟩ := hrel
        have hle := ht.len
        have CL := qLen_any hs.que
        by_cases hm : m = 0
        · subst hm
          have HE := Lib.hid ht.done
          have HOw := Lib.hid hO
          have HBl := Lib.hid hs.bel
          have CL := Lib.hid CL
          clear hO hs hp ht
          go_wp2_with fail
          refine CL.out.mono ?_
          rintro e w' ⟨rfl, rfl⟩
          go_wp2_with fail
          go_ret2
          exact ⟨_, out, rfl, HE.out, HOw.out, HBl.out⟩
        · obtain ⟨m0, rfl⟩ : ∃ m0, m = m0 + 1 := ⟨m - 1, by omega⟩
          obtain ⟨m1, hm1⟩ : ∃ m1, m0 + 1 = m1 := ⟨_, rfl⟩
          have CPo := hPop_any HO.out HEC.out (HCM.out.compares (N := k) (ib := ib) (Nat.le_refl _)) (fun a (ha : a < k ∧ a ∉ out) => ha.1) (by omega) hs hp ht.some'
          rw [hm1] at CL
          have hb1 : 1 ≤ m1 ∧ m1 ≤ 1000 := by omega
          have hgt : (0 : Int) < (m1 : Int) := by omega
          have hf0 : f 0 < k := ((ht.some'.on _).2 ⟨0, by omega, rfl⟩).1
          obtain ⟨x, hx⟩ : ∃ x, f 0 = x := ⟨_, rfl⟩
          rw [hx] at CPo hf0
          have HT := Lib.hid ht
          have HP := Lib.hid hp
          have HX := Lib.hid hx
          have HOw := Lib.hid hO
          have CL := Lib.hid CL
          have CPo := Lib.hid CPo
          clear hO hs hp ht hx hm1
          go_wp2_with fail
          refine CL.out.mono ?_
          rintro e w' ⟨rfl, rfl⟩
          go_wp2_with fail
          refine CPo.out.mono ?_
          rintro e W4 ⟨rfl, h4⟩
          have hrow := row_keep HOw.out (fun b cs hb => h4.keeps hb (by decide) (by decide) (by decide))
          obtain ⟨q4, f4, hs4, hp4, hh4⟩ := h4
          have hxb := (hs4.its x hf0).at
          have hta := fun w => ta_item (iptr (ib x)) w
          obtain ⟨i0, hi, hz0, hz1, hz2⟩ := info_parts info_i64
          have HS4 := Lib.hid hs4
          have H4 := Lib.hid (And.intro hp4 hh4)
          have hlim := hs4.lim
          have hol : out.length ≤ 1000 := by omega
          clear hs4 hp4 hh4 CL CPo
          go_wp2_with (at_builtin; refine wpList_append_own _ rfl _ _ 62 rfl B 3 i0 (.int .i64 0) 1 8 Tryz.underlying62 hi hz0 hz1 hz2 rfl (by decide) _ _ _ rfl (hrow.alloc _) ⟨W4.heap.size, 0, none⟩ 1 1 [.int .i64 (x : Int)] rfl rfl (cell_one_new _ _ _) ?c2 ?c3 ?c4 ?c5 ?_)
          case c2 => simp [Value.oneCell']
          case c3 => unfold maxLen; omega
          case c4 => omega
          case c5 => simp; omega
          intro v' w5 hown' hgrow _
          have hs5 := (HS4.out.below ((Below.refl W4.heap.size W4).alloc (Nat.le_refl _) (.cells #[.int .i64 (x : Int)] 3))).off (hrow.alloc _) (by decide) (by decide) (by decide) hgrow
          have hO5 : Own .i64 w5 B 3 v' (out ++ [x]) := by
            unfold Own
            rw [List.length_append, nums_append]
            exact hown'
          have ht5 := Taken.step HO.out HT.out HP.out HX.out H4.out.2
          have hl5 : lenV v' = out.length + 1 := by
            rcases hown'.2 with ⟨_, h0⟩ | ⟨_, _, _, rfl, _⟩
            · omega
            · rfl
          have hl4 : lenV lv = out.length := by
            rcases hrow.2 with ⟨rfl, h0⟩ | ⟨_, _, _, rfl, _⟩
            · exact h0.symm
            · rfl
          have H5 := Lib.hid (show Own .i64 w5 B 3 v' (out ++ [x]) ∧ Stt w5 w w5 B (g + 1) fr fc way q4 m0 k f4 ib rd ∧ Heap (ltV cv way) f4 m0 ∧ Taken (ltV cv way) k (out ++ [x]) f4 m0 from ⟨hO5, hs5, H4.out.1, ht5⟩)
          have HLL := Lib.hid (And.intro hl5 hl4)
          clear hs5 hO5 ht5 hl5 hl4 hown' hgrow hrow hxb hta HS4 H4 HT HP HOw
          go_wp2
          go_roundw
          case rel => exact ⟨_, m0, out ++ [x], q4, f4, rfl, H5.out⟩
          case measure => rw [HLL.out.1, HLL.out.2]; omega
end Go.Proofs.YtnbagigbaceonaaGreatDoor

namespace Go.Proofs.YtnbagigbaceonaaGreatDoor
open Go.RowKit Go.Lib

theorem en_leave : Enters fLeave := fun args w => (enters_of Tryz.func41 (by kernel_rfl) rfl) args w
theorem en_alike : Enters fAlike := fun args w => (enters_of Tryz.func42 (by kernel_rfl) rfl) args w
theorem leave_any (b : Nat) (conv : ByteArray) (W : World) : Calls Tryz.prog fLeave #[iptr b, .string conv] W fun e w' => (∃ r, e = .returned r) ∧ W = w' := by
  go_enter Tryz.func41, Tryz.ntmps41
  go_wp2
  go_end0
  exact ⟨⟨_, rfl⟩, rfl⟩
theorem readies_leave (w0 : World) (B : Nat) (conv : ByteArray) (n : Nat) (es : Nat → Dat) : Readies w0 B fLeave conv n es es := fun W b a _ _ hb =>
  (leave_any b conv W).mono fun _ _ ⟨h1, h2⟩ => by
    subst h2
    exact ⟨h1, hb, ⟨rfl, rfl, rfl, Nat.le_refl _, fun _ _ _ => rfl⟩⟩
theorem cmp_alike (w0 : World) (B n : Nat) (d : Nat → Dat) : CmpOf w0 B fAlike n d (fun _ _ => 0) := by
  intro W a b p q _ _ _ _ _
  go_enter Tryz.func42, Tryz.ntmps42
  go_wp2
  go_ret
  exact ⟨rfl, Below.refl _ _⟩
/-- A comparison that is one gives an order. -/
theorem ord_of {cv : Nat → Nat → Int} {way : Int} (hw : way = 1 ∨ way = -1) (hb : ∀ a b, -1000 ≤ cv a b ∧ cv a b ≤ 1000) (hs : ∀ a b, cv b a = -cv a b) (ht : ∀ a b c, cv a b ≤ 0 → cv b c ≤ 0 → cv a c ≤ 0 ∧ (cv a c = 0 → cv a b = 0 ∧ cv b c = 0)) (he : ∀ a b c, cv a b = 0 → cv b c = 0 → cv a c = 0) : Ord (ltV cv way) := by
  have key : ∀ a b, ltV cv way a b = true ↔ (cv a b * way < 0 ∨ (cv a b = 0 ∧ a < b)) := fun a b => by
    have h1 := hb a b
    have h2 : IntKind.i64.wrap (cv a b * way) = cv a b * way := IntWalk.i64_in _ (by rcases hw with rfl | rfl <;> omega)
    unfold ltV lessB
    rw [h2]
    by_cases e : cv a b * way = 0
    · rw [if_pos e, decide_eq_true_eq]
      rcases hw with rfl | rfl <;> omega
    · rw [if_neg e, decide_eq_true_eq]
      rcases hw with rfl | rfl <;> omega
  have nkey : ∀ a b, ltV cv way a b = false ↔ ¬ (cv a b * way < 0 ∨ (cv a b = 0 ∧ a < b)) := fun a b => by rw [← key, Bool.not_eq_true]
  refine ⟨fun a b h => ?_, fun a b hne h => ?_, fun a b c h1 h2 => ?_⟩
  · rw [key] at h
    rw [nkey]
    have := hs a b
    rcases hw with rfl | rfl <;> omega
  · rw [nkey] at h
    rw [key]
    have := hs a b
    rcases hw with rfl | rfl <;> omega
  · rw [key] at h1 h2 ⊢
    have e1 := hs a b
    have e2 := hs b c
    have e3 := hs a c
    have t1 := ht a b c
    have t2 := ht c b a
    have t3 := he a b c
    rcases hw with rfl | rfl
    · by_cases z : cv a c = 0
      · by_cases y : cv a b ≤ 0 ∧ cv b c ≤ 0
        · have := (t1 y.1 y.2).2 z; omega
        · omega
      · by_cases y : cv a b ≤ 0 ∧ cv b c ≤ 0
        · have := (t1 y.1 y.2).1; omega
        · omega
    · by_cases z : cv a c = 0
      · by_cases y : cv c b ≤ 0 ∧ cv b a ≤ 0
        · have := (t2 y.1 y.2).2 (by omega); omega
        · omega
      · by_cases y : cv c b ≤ 0 ∧ cv b a ≤ 0
        · have := (t2 y.1 y.2).1; omega
        · omega
end Go.Proofs.YtnbagigbaceonaaGreatDoor

namespace Go.Proofs.YtnbagigbaceonaaGreatDoor
open Go.RowKit Go.Lib

theorem Rd.far {κ : IntKind} {W : World} {A : Option Addr} {xs : List Nat} (h : Rd κ W A xs) {g j : Nat} (hne : Off A g) (u : Value) : Rd κ (W.setCell ⟨g, j, none⟩ u) A xs := h.kept (grown_set (grown_refl W (some g)) u) hne
end Go.Proofs.YtnbagigbaceonaaGreatDoor

namespace Go.Proofs.YtnbagigbaceonaaGreatDoor

/-- A digit as a byte. -/
def db (d : Nat) : UInt8 := UInt8.ofNat (48 + d)
/-- A number's decimal text. -/
def decs (n : Nat) : List UInt8 := if n = 0 then [48] else (dig 10 n).reverse.map db
end Go.Proofs.YtnbagigbaceonaaGreatDoor

namespace Go.Proofs.YtnbagigbaceonaaGreatDoor
open Go.RowKit Go.Lib

/-- A block of two cells that is there. -/
structure Two (W : World) (g : Nat) (a b : Value) (t : TypeId) : Prop where
  row : W.heap[g]? = some (.cells #[a, b] t (0, 0))
theorem Two.facts {W : World} {g : Nat} {a b : Value} {t : TypeId} (h : Two W g a b t) : W.cell? ⟨g, 0, none⟩ = some a ∧ W.cell? ⟨g, 1, none⟩ = some b ∧ W.frozen? ⟨g, 0, none⟩ = false ∧ W.frozen? ⟨g, 1, none⟩ = false ∧ g < W.heap.size := by
  have h0 := cell_of_row W _ 0 _ _ _ h.row
  have h1 := cell_of_row W _ 1 _ _ _ h.row
  simp only [List.getElem?_toArray, List.getElem?_cons_zero, List.getElem?_cons_succ] at h0 h1
  exact ⟨h0, h1, frozen_of_row W _ 0 _ _ h.row, frozen_of_row W _ 1 _ _ h.row, (Array.getElem?_eq_some_iff.1 h.row).1⟩
theorem Two.below {W W' : World} {g : Nat} {a b : Value} {t : TypeId} (h : Two W g a b t) (hb : Below W.heap.size W W') : Two W' g a b t := ⟨(hb.block g (Array.getElem?_eq_some_iff.1 h.row).1).trans h.row⟩
theorem Two.new (w : World) (a b : Value) (t : TypeId) : Two (w.alloc (.cells #[a, b] t)) w.heap.size a b t := ⟨heap_alloc_new w _⟩
theorem Two.alloc {W : World} {g : Nat} {a b : Value} {t : TypeId} (h : Two W g a b t) (o : Obj) : Two (W.alloc o) g a b t := ⟨(Below.heap_alloc W o g (Array.getElem?_eq_some_iff.1 h.row).1).trans h.row⟩

end Go.Proofs.YtnbagigbaceonaaGreatDoor

namespace Go.Proofs.YtnbagigbaceonaaGreatDoor
open Go.RowKit Go.Lib

/-- The bits without the sign. -/
def mag (b : Nat) : Nat := b % 9223372036854775808
def nanB (b : Nat) : Bool := FloatKind.f64.format.order b b != some .eq
end Go.Proofs.YtnbagigbaceonaaGreatDoor
