/- Several texts in one (Layer 10 in memory: instructions, programs, searches; Contracts of the smallest functions of layer 1: which codes are capitals, and their letters' partners; Contracts of layer 10: a character's two codes; Layer 10 in memory: what a search's own steps leave; Contracts of layer 10: follow; Contracts of layer 10: to a place whose row is empty; Contracts of layer 1: the character at a place of a string, in the program (Next) and in the definition (size, Next); Contracts of layer 1: Next, in the program and in the definition; Contracts of layer 1: All, the iterator over a string's characters). -/
import Derived.Test.YtdfacbcenogplaaDoorRows
import Derived.WalkKit
import Derived.WalkSpells
import Derived.WalkLawsBesides
import Derived.Lib.Hide
import Derived.Laws.BitsAllLaws
import Derived.Maps.AppendAt
import Derived.Lib.SliceRun
import Derived.Test.YtdfacbcenogplaaDoorShelf
import Derived.Lib.RuneCountTail
import Derived.RangeFuncNested
import Derived.RangeFuncBound
import Derived.RangeFuncCalls
import Derived.RangeFuncLeaves
import Derived.Shelf.Abstract
import Derived.Shelf.RegionOpen
import Derived.OwnWalkIn
import Derived.TacticsInMore
import Derived.LoopNIn
import Derived.LoopIn
import Derived.Test.YtdfacbcenogplaaDoorPk1
import Derived.Test.YtdfacbcenogplaaDoorPk2
namespace Go.Proofs.YtdfacbcenogplaaDoor
open Go.RowKit Go.Lib

/-- An instruction's five cells, with its set and its ways in blocks below B. -/
def InsIn (w : World) (B g o : Nat) (x : Ins) : Prop :=
  ∃ sv wa wc, w.cell? ⟨g, o, none⟩ = some (.int .i64 x.kind) ∧ w.cell? ⟨g, o + 1, none⟩ = some (.int .i64 x.code) ∧ w.cell? ⟨g, o + 2, none⟩ = some (.bool x.neg) ∧ w.cell? ⟨g, o + 3, none⟩ = some sv ∧ w.cell? ⟨g, o + 4, none⟩ = some (.slice wa x.ways.length wc) ∧
    RgIn w (fun b => b < B) x.set sv ∧ x.ways.length ≤ 100000 ∧ ∀ (j m : Nat), x.ways[j]? = some m → ∃ h, wa = some ⟨h, 0, none⟩ ∧ h < B ∧ w.cell? ⟨h, j, none⟩ = some (.int .i64 (m : Int))
/-- All of them, one behind the other. -/
def CodeIn (w : World) (B cb : Nat) (C : List Ins) : Prop := cb < B ∧ ∀ (i : Nat) (x : Ins), C[i]? = some x → InsIn w B cb (i * 5) x
theorem InsIn.below {w w' : World} {B g o : Nat} {x : Ins} (h : InsIn w B g o x) (hg : g < B) (hb : Below B w w') : InsIn w' B g o x := by
  obtain ⟨sv, wa, wc, h0, h1, h2, h3, h4, h5, h6, h7⟩ := h
  refine ⟨sv, wa, wc, (hb.cell hg).trans h0, (hb.cell hg).trans h1, (hb.cell hg).trans h2, (hb.cell hg).trans h3, (hb.cell hg).trans h4, h5.kept fun b _ hb' => ⟨hb', hb.block b hb'⟩, h6, fun j m hj => ?_⟩
  obtain ⟨b, e, hb', hc⟩ := h7 j m hj
  exact ⟨b, e, hb', (hb.cell hb').trans hc⟩
theorem CodeIn.below {w w' : World} {B cb : Nat} {C : List Ins} (h : CodeIn w B cb C) (hb : Below B w w') : CodeIn w' B cb C := ⟨h.1, fun i x hx => (h.2 i x hx).below h.1 hb⟩
/-- A program. -/
structure PrgIn (w : World) (B P : Nat) (fold bytes : Bool) (cb ccap : Nat) (C : List Ins) (first : Nat) : Prop where
  blk : Blk w P #[.bool fold, .bool bytes, .slice (some ⟨cb, 0, none⟩) C.length ccap, .int .i64 (first : Int)] 69
  low : P < B
  code : CodeIn w B cb C
theorem PrgIn.below {w w' : World} {B P : Nat} {fold bytes : Bool} {cb ccap : Nat} {C : List Ins} {first : Nat} (h : PrgIn w B P fold bytes cb ccap C first) (hb : Below B w w') : PrgIn w' B P fold bytes cb ccap C first := ⟨h.blk.below hb h.low, h.low, h.code.below hb⟩
/-- Is this instruction's bit set? -/
def bitW (ws : List Nat) (n : Nat) : Prop := (ws.getD (n / 64) 0).testBit (n % 64) = true
def pathCells (l : List (Nat × Nat)) : List Value := l.flatMap fun p => [.int .i64 (p.1 : Int), .int .i64 (p.2 : Int)]
/-- What stays: the program, the text, the row's place, what is kept. -/
structure SCon where
  B : Nat
  R : Nat
  P : Nat
  s : ByteArray
  fold : Bool
  bytes : Bool
  cb : Nat
  ccap : Nat
  C : List Ins
  first : Nat
  keep : Bool
  words : Nat
/-- A search at place p: the row lies at ro of block rb, whose cells are cs; now, next as they lie. -/
structure Sch (k : SCon) (w : World) (p : Nat) (nowv nextv mv : Value) (rb ro rcap : Nat) (cs : Array Value) (ws : List Nat) (ss : SS) : Prop where
  blk : Blk w k.R #[.pointer (some ⟨k.P, 0, none⟩), .string k.s, .int .i64 (p : Int), nowv, nextv, .bool ss.found, .int .i64 (ss.st : Int), .int .i64 (ss.en : Int), .bool k.keep, .int .i64 (k.words : Int), mv, .slice (some ⟨rb, ro, none⟩) k.words rcap] 97
  up : k.B ≤ k.R
  prg : PrgIn w k.B k.P k.fold k.bytes k.cb k.ccap k.C k.first
  row : Blk w rb cs 144
  rup : k.B ≤ rb
  rin : ro + k.words ≤ cs.size
  wl : ws.length = k.words
  wb : ∀ x ∈ ws, x < 18446744073709551616
  wc : ∀ (j x : Nat), ws[j]? = some x → cs[ro + j]? = some (.int .u64 (x : Int))
  rowE : ss.row = bitW ws
  nx : w.ownsRow k.B 105 2 nextv ss.next.length (pathCells ss.next)
  nn : ∀ g, nextv.ownBlock = some g → nowv.ownBlock ≠ some g
  pl : p ≤ k.s.size
/-- What holds of a program's instructions. -/
structure Well (k : SCon) : Prop where
  one : OneEnd k.C
  ins : ∀ (i : Nat) (x : Ins), k.C[i]? = some x → (∀ j ∈ x.ways, j < k.C.length) ∧ (leafK x.kind → x.ways ≠ [])
  len : k.C.length ≤ 100000
  wds : k.words = (k.C.length + 63) / 64
  str : k.s.size ≤ 1048576
/-- How many aren't marked yet. -/
def unset (ws : List Nat) (n : Nat) : Nat := ((List.range n).filter fun i => !(ws.getD (i / 64) 0).testBit (i % 64)).length
theorem unset_le {ws ws' : List Nat} {n : Nat} (h : ∀ i, bitW ws i → bitW ws' i) : unset ws' n ≤ unset ws n := by
  unfold unset
  rw [← List.countP_eq_length_filter, ← List.countP_eq_length_filter]
  refine List.countP_mono_left fun i _ hi => ?_
  have h2 := h i
  unfold bitW at h2
  cases q : (ws.getD (i / 64) 0).testBit (i % 64) with
  | false => rfl
  | true => rw [h2 q] at hi; cases hi
theorem countP_less {α : Type} {p q : α → Bool} {a : α} : ∀ {l : List α}, (∀ x ∈ l, q x = true → p x = true) → a ∈ l → p a = true → q a = false → l.countP q < l.countP p
  | x :: l, h, ha, hp, hq => by
    have hle : l.countP q ≤ l.countP p := List.countP_mono_left fun y hy => h y (List.mem_cons_of_mem _ hy)
    rw [List.countP_cons, List.countP_cons]
    rcases List.mem_cons.1 ha with rfl | ha
    · rw [hp, hq]
      simp
      omega
    · have := countP_less (fun y hy => h y (List.mem_cons_of_mem _ hy)) ha hp hq
      have hx := h x (List.mem_cons_self ..)
      cases q1 : q x with
      | false => cases p x <;> simp <;> omega
      | true => rw [hx q1]; simp; omega
theorem unset_lt {ws ws' : List Nat} {n i : Nat} (hi : i < n) (h0 : ¬ bitW ws i) (h1 : bitW ws' i) (h : ∀ i, bitW ws i → bitW ws' i) : unset ws' n < unset ws n := by
  unfold unset
  rw [← List.countP_eq_length_filter, ← List.countP_eq_length_filter]
  refine countP_less (a := i) (fun j _ hj => ?_) (List.mem_range.2 hi) ?_ ?_
  · have h2 := h j
    unfold bitW at h2
    cases q : (ws.getD (j / 64) 0).testBit (j % 64) with
    | false => rfl
    | true => rw [h2 q] at hj; cases hj
  · unfold bitW at h0
    simpa using h0
  · unfold bitW at h1
    rw [h1]
    rfl
/-- A bit set. -/
def setW (ws : List Nat) (n : Nat) : List Nat := ws.set (n / 64) ((ws.getD (n / 64) 0) ||| 2 ^ (n % 64))
theorem bitW_set {ws : List Nat} {n : Nat} (hn : n / 64 < ws.length) : bitW (setW ws n) = fun i => bitW ws i ∨ i = n := by
  funext i
  unfold bitW setW
  rw [List.getD_eq_getElem?_getD, List.getD_eq_getElem?_getD]
  by_cases q : i / 64 = n / 64
  · rw [q, List.getElem?_set_self hn]
    simp only [Option.getD_some, Nat.testBit_or, Nat.testBit_two_pow, Bool.or_eq_true, decide_eq_true_eq, List.getD_eq_getElem?_getD]
    refine propext ⟨fun h => h.imp id fun h => by omega, fun h => h.imp id fun h => by omega⟩
  · rw [List.getElem?_set_ne (fun e => q e.symm)]
    refine propext ⟨.inl, fun h => h.elim id fun h => absurd (by rw [h]) q⟩
end Go.Proofs.YtdfacbcenogplaaDoor

namespace Go.Proofs.YtdfacbcenogplaaDoor
open Go.RowKit

/-- Is it a capital's code? -/
def capZ (c : Int) (b : Bool) : Bool := decide (65 ≤ c ∧ c ≤ 90) || (!b && decide (192 ≤ c ∧ c ≤ 222 ∧ c ≠ 215))
def foldZ (c : Int) (b : Bool) : Int := if capZ c b then c + 32 else c
set_option maxHeartbeats 400000 in
theorem capital_any (c : Int) (b : Bool) (w : World) :
    Calls Tryd.prog 109 #[.int .i64 c, .bool b] w fun e w' => e = .returned (.bool (capZ c b)) ∧ w = w' := by
  cases b <;> by_cases h1 : 65 ≤ c <;> by_cases h2 : c ≤ 90 <;> by_cases h3 : 192 ≤ c <;> by_cases h4 : c ≤ 222 <;> by_cases h5 : c = 215 <;> first | (exfalso; omega) | skip
  all_goals
    go_enter Tryd.func109, Tryd.ntmps109
    go_wp2
    go_ret
    exact ⟨by simp [capZ, *], rfl⟩

set_option maxHeartbeats 400000 in
theorem fold_any (c : Int) (b : Bool) (w : World) :
    Calls Tryd.prog 84 #[.int .i64 c, .bool b] w fun e w' => e = .returned (.int .i64 (foldZ c b)) ∧ w = w' := by
  by_cases h : capZ c b = true
  · have hc : c ≤ 222 := by simp [capZ] at h; omega
    have hc0 : 65 ≤ c := by simp [capZ] at h; omega
    go_enter Tryd.func84, Tryd.ntmps84
    go_wp2_with (go_at_call 109; refine (capital_any _ _ _).mono ?_; rintro e w' ⟨rfl, rfl⟩)
    go_ret
    exact ⟨by simp [foldZ, h], rfl⟩
  · have h' : capZ c b = false := by simpa using h
    clear h
    go_enter Tryd.func84, Tryd.ntmps84
    go_wp2_with (go_at_call 109; refine (capital_any _ _ _).mono ?_; rintro e w' ⟨rfl, rfl⟩)
    go_ret
    exact ⟨by simp [foldZ, h'], rfl⟩

end Go.Proofs.YtdfacbcenogplaaDoor

namespace Go.Proofs.YtdfacbcenogplaaDoor
open Go.RowKit Go.Lib

def chLow (fold bytes : Bool) (c : Int) : Int := if fold then foldZ c bytes else c
def chCap (fold bytes : Bool) (c : Int) : Int := if fold && decide (foldZ (c - 32) bytes = c) then c - 32 else c
set_option maxRecDepth 100000 in
set_option maxHeartbeats 1000000 in
theorem char_any {W : World} {B P : Nat} {fold bytes : Bool} {cb ccap : Nat} {C : List Ins} {first : Nat} (h : PrgIn W B P fold bytes cb ccap C first) (hB : B ≤ W.heap.size) (c : Nat) (hc : c < 4294967296) :
    Calls Tryd.prog 51 #[.pointer (some ⟨P, 0, none⟩), .int .i64 (c : Int)] W fun e w' => e = .returned (.agg #[.int .i64 (chLow fold bytes c), .int .i64 (chCap fold bytes c)]) ∧ Below W.heap.size W w' := by
  have CF := Lib.hid (fun x w => fold_any x bytes w)
  have hlt : P < W.heap.size := Nat.lt_of_lt_of_le h.low hB
  have p0 := h.blk.cell 0
  have p1 := h.blk.cell 1
  simp only [List.getElem?_toArray, List.getElem?_cons_succ, List.getElem?_cons_zero] at p0 p1
  have HC := Lib.hid hc
  clear h
  cases fold
  · have e1 : chLow false bytes (c : Int) = c := rfl
    have e2 : chCap false bytes (c : Int) = c := rfl
    rw [e1, e2]
    go_enter Tryd.func51, Tryd.ntmps51
    go_wp2_with fail
    exact bodyPost_ret (v := .agg #[.int .i64 (c : Int), .int .i64 (c : Int)]) (by simp [results, Tryd.results51, go_sem]) rfl ⟨rfl, ((Below.refl W.heap.size W).alloc (Nat.le_refl _) _).alloc (by simp) _⟩
  · have e1 : chLow true bytes (c : Int) = foldZ c bytes := rfl
    have hw : IntKind.i64.wrap ((c : Int) - 32) = (c : Int) - 32 := IntWalk.i64_in _ (by omega)
    rw [e1]
    by_cases hcp : foldZ ((c : Int) - 32) bytes = c
    · have e2 : chCap true bytes (c : Int) = (c : Int) - 32 := by unfold chCap; rw [decide_eq_true hcp]; rfl
      rw [e2]
      have hcp2 : (foldZ ((c : Int) - 32) bytes == (c : Int)) = true := by rw [hcp]; simp
      have HW := Lib.hid hw
      clear hw e1 e2
      go_enter Tryd.func51, Tryd.ntmps51
      go_wp2_with fail
      refine (CF.out _ _).mono ?_
      rintro e w' ⟨rfl, rfl⟩
      go_wp2_with fail
      refine (CF.out _ _).mono ?_
      rintro e w' ⟨rfl, rfl⟩
      go_wp2_with fail
      exact bodyPost_ret (v := .agg #[.int .i64 (foldZ c bytes), .int .i64 ((c : Int) - 32)]) (by simp [results, Tryd.results51, go_sem]) rfl ⟨rfl, ((Below.refl W.heap.size W).alloc (Nat.le_refl _) _).alloc (by simp) _⟩
    · have e2 : chCap true bytes (c : Int) = (c : Int) := by unfold chCap; rw [decide_eq_false hcp]; rfl
      rw [e2]
      have hcp2 : (foldZ ((c : Int) - 32) bytes == (c : Int)) = false := beq_eq_false_iff_ne.2 hcp
      clear e1 e2
      go_enter Tryd.func51, Tryd.ntmps51
      go_wp2_with fail
      refine (CF.out _ _).mono ?_
      rintro e w' ⟨rfl, rfl⟩
      go_wp2_with fail
      refine (CF.out _ _).mono ?_
      rintro e w' ⟨rfl, rfl⟩
      go_wp2_with fail
      exact bodyPost_ret (v := .agg #[.int .i64 (foldZ c bytes), .int .i64 (c : Int)]) (by simp [results, Tryd.results51, go_sem]) rfl ⟨rfl, ((Below.refl W.heap.size W).alloc (Nat.le_refl _) _).alloc (by simp) _⟩
end Go.Proofs.YtdfacbcenogplaaDoor

namespace Go.Proofs.YtdfacbcenogplaaDoor
open Go.RowKit Go.Lib Go.Maps

theorem Sch.cells {k : SCon} {w : World} {p : Nat} {nowv nextv mv : Value} {rb ro rcap : Nat} {cs : Array Value} {ws : List Nat} {ss : SS} (h : Sch k w p nowv nextv mv rb ro rcap cs ws ss) :
    (w.cell? ⟨k.R, 0, none⟩ = some (.pointer (some ⟨k.P, 0, none⟩)) ∧ w.cell? ⟨k.R, 1, none⟩ = some (.string k.s) ∧ w.cell? ⟨k.R, 2, none⟩ = some (.int .i64 (p : Int)) ∧ w.cell? ⟨k.R, 3, none⟩ = some nowv ∧ w.cell? ⟨k.R, 4, none⟩ = some nextv ∧ w.cell? ⟨k.R, 5, none⟩ = some (.bool ss.found) ∧
      w.cell? ⟨k.R, 6, none⟩ = some (.int .i64 (ss.st : Int)) ∧ w.cell? ⟨k.R, 7, none⟩ = some (.int .i64 (ss.en : Int)) ∧ w.cell? ⟨k.R, 11, none⟩ = some (.slice (some ⟨rb, ro, none⟩) k.words rcap)) ∧ ∀ j, w.frozen? ⟨k.R, j, none⟩ = false :=
  ⟨⟨h.blk.cell 0, h.blk.cell 1, h.blk.cell 2, h.blk.cell 3, h.blk.cell 4, h.blk.cell 5, h.blk.cell 6, h.blk.cell 7, h.blk.cell 11⟩, fun j => h.blk.fro j⟩
theorem own_bel {w w' : World} {n : Nat} {t : TypeId} {z k : Nat} {v : Value} {xs : List Value} (h : w.ownsRow n t z v k xs) (hb : Below w.heap.size w w') : w'.ownsRow n t z v k xs := by
  refine ⟨h.1, ?_⟩
  rcases h.2 with h0 | ⟨g, cap, cur, e, hn, hr, hz⟩
  · exact .inl h0
  · exact .inr ⟨g, cap, cur, e, hn, (hb.block g (Array.getElem?_eq_some_iff.1 hr).1).trans hr, hz⟩
theorem own_set {w : World} {n : Nat} {t t' : TypeId} {z k r j : Nat} {v u : Value} {xs : List Value} {c : Array Value} (h : w.ownsRow n t z v k xs) (hr : Blk w r c t') (ht : t ≠ t') : (w.setCell ⟨r, j, none⟩ u).ownsRow n t z v k xs := by
  refine ⟨h.1, ?_⟩
  rcases h.2 with h0 | ⟨g, cap, cur, e, hn, hg, hz⟩
  · exact .inl h0
  · refine .inr ⟨g, cap, cur, e, hn, (Below.heap_setCell w ⟨r, j, none⟩ u g fun q => ?_).trans hg, hz⟩
    have q : g = r := q
    subst q
    rw [hr.row] at hg
    injection hg with hg
    injection hg with _ hg
    exact ht hg.symm
theorem Blk.apart {w : World} {g g' : Nat} {c c' : Array Value} {t t' : TypeId} (h : Blk w g c t) (h' : Blk w g' c' t') (ht : t ≠ t') : g ≠ g' := fun q => by
  subst q
  have := h.row
  rw [h'.row] at this
  injection this with h1
  injection h1 with _ h1
  exact ht h1.symm
theorem Sch.size {k : SCon} {w : World} {p : Nat} {nowv nextv mv : Value} {rb ro rcap : Nat} {cs : Array Value} {ws : List Nat} {ss : SS} (h : Sch k w p nowv nextv mv rb ro rcap cs ws ss) : k.B ≤ w.heap.size := Nat.le_trans h.up (Nat.le_of_lt (Blk.lt h.blk))
theorem Sch.same {k : SCon} {w w' : World} {p : Nat} {nowv nextv mv : Value} {rb ro rcap : Nat} {cs : Array Value} {ws : List Nat} {ss : SS} (h : Sch k w p nowv nextv mv rb ro rcap cs ws ss) (hb : Below w.heap.size w w') : Sch k w' p nowv nextv mv rb ro rcap cs ws ss :=
  ⟨h.blk.below hb (Blk.lt h.blk), h.up, h.prg.below (hb.mono h.size), h.row.below hb (Blk.lt h.row), h.rup, h.rin, h.wl, h.wb, h.wc, h.rowE, own_bel h.nx hb, h.nn, h.pl⟩
/-- A bit set in the row. -/
theorem Sch.mark {k : SCon} {w : World} {p : Nat} {nowv nextv mv : Value} {rb ro rcap : Nat} {cs : Array Value} {ws : List Nat} {ss : SS} (h : Sch k w p nowv nextv mv rb ro rcap cs ws ss) {n x y : Nat} (hn : n / 64 < k.words) (hx : ws[n / 64]? = some x) (hy : x ||| 2 ^ (n % 64) = y) (hyb : y < 18446744073709551616) :
    Sch k (w.setCell ⟨rb, ro + n / 64, none⟩ (.int .u64 (y : Int))) p nowv nextv mv rb ro rcap (cs.setIfInBounds (ro + n / 64) (.int .u64 (y : Int))) (setW ws n) (ss.mark n) := by
  have hne := Blk.apart h.row h.blk (by decide)
  have hsw : setW ws n = ws.set (n / 64) y := by
    unfold setW
    rw [List.getD_eq_getElem?_getD, hx, Option.getD_some, hy]
  refine ⟨h.blk.other (fun q => hne q.symm), h.up, h.prg.below ((Below.refl _ _).setCell (p := ⟨rb, ro + n / 64, none⟩) h.rup _), h.row.set, h.rup, by simpa using h.rin, ?_, fun z hz => ?_, fun j z hj => ?_, ?_, own_set h.nx h.row (by decide), h.nn, h.pl⟩
  · rw [hsw, List.length_set]
    exact h.wl
  · rw [hsw] at hz
    rcases List.mem_or_eq_of_mem_set hz with q | q
    · exact h.wb z q
    · rw [q]; exact hyb
  · rw [hsw] at hj
    by_cases q : j = n / 64
    · subst q
      rw [List.getElem?_set_self (by rw [h.wl]; exact hn)] at hj
      cases hj
      rw [Array.getElem?_setIfInBounds_self_of_lt (by have := h.rin; omega)]
    · rw [List.getElem?_set_ne (fun e => q e.symm)] at hj
      rw [Array.getElem?_setIfInBounds_ne (by omega)]
      exact h.wc j z hj
  · rw [bitW_set (by rw [h.wl]; exact hn)]
    show (fun i => ss.row i ∨ i = n) = _
    rw [h.rowE]
/-- An end that was found. -/
theorem Sch.fin {k : SCon} {w : World} {p : Nat} {nowv nextv mv : Value} {rb ro rcap : Nat} {cs : Array Value} {ws : List Nat} {ss : SS} (h : Sch k w p nowv nextv mv rb ro rcap cs ws ss) (st : Nat) :
    Sch k (((w.setCell ⟨k.R, 5, none⟩ (.bool true)).setCell ⟨k.R, 6, none⟩ (.int .i64 (st : Int))).setCell ⟨k.R, 7, none⟩ (.int .i64 (p : Int))) p nowv nextv mv rb ro rcap cs ws { ss with found := true, st := st, en := p } := by
  have hne := Blk.apart h.row h.blk (by decide)
  have b1 : Blk (w.setCell ⟨k.R, 5, none⟩ (.bool true)) k.R _ 97 := h.blk.set
  have b2 : Blk ((w.setCell ⟨k.R, 5, none⟩ (.bool true)).setCell ⟨k.R, 6, none⟩ (.int .i64 (st : Int))) k.R _ 97 := b1.set
  exact ⟨b2.set, h.up, h.prg.below ((((Below.refl _ _).setCell (p := ⟨k.R, 5, none⟩) h.up _).setCell (p := ⟨k.R, 6, none⟩) h.up _).setCell (p := ⟨k.R, 7, none⟩) h.up _), ((h.row.other hne).other hne).other hne, h.rup, h.rin, h.wl, h.wb, h.wc, h.rowE, own_set (own_set (own_set h.nx h.blk (by decide)) b1 (by decide)) b2 (by decide), h.nn, h.pl⟩
/-- A way that asks for a character. -/
theorem Sch.push {k : SCon} {w w1 w2 : World} {p : Nat} {nowv nextv mv v' : Value} {rb ro rcap : Nat} {cs : Array Value} {ws : List Nat} {ss : SS} (h : Sch k w p nowv nextv mv rb ro rcap cs ws ss) {n st : Nat} (hb : Below w.heap.size w w1) (hg : w1.grownBy w2 nextv.ownBlock) (ho : w2.ownsRow k.B 105 2 v' (ss.next.length + 1) (pathCells ss.next ++ [.int .i64 (n : Int), .int .i64 (st : Int)]))
    (hv : v'.ownBlock = nextv.ownBlock ∨ v'.ownBlock = some w1.heap.size) (hnow : ∀ g, nowv.ownBlock = some g → g < w.heap.size) :
    Sch k (w2.setCell ⟨k.R, 4, none⟩ v') p nowv v' mv rb ro rcap cs ws { ss with next := ss.next ++ [(n, st)] } := by
  have h1 := h.same hb
  have hx : ∀ {g : Nat} {c : Array Value} {t : TypeId}, Blk w1 g c t → t ≠ 105 → Blk w2 g c t := fun {g c t} hc ht => Blk.grown hc hg fun q => by
    rcases h1.nx.2 with ⟨e, _⟩ | ⟨g', cap, cur, e, _, hr, _⟩
    · rw [e] at q; cases q
    · rw [e] at q
      injection q with q
      subst q
      have := hc.row
      rw [hr] at this
      injection this with this
      injection this with _ this
      exact ht this.symm
  have hlow : Below k.B w1 w2 := (Below.refl k.B w1).grown hg h1.size fun j hj => by
    rcases h1.nx.2 with ⟨e, _⟩ | ⟨g', cap, cur, e, hb', hr, _⟩
    · rw [e] at hj; cases hj
    · rw [e] at hj; cases hj; exact hb'
  have hblk := hx h1.blk (by decide)
  have hrow := hx h1.row (by decide)
  have hne := Blk.apart hrow hblk (by decide)
  refine ⟨hblk.set, h.up, (h1.prg.below hlow).below ((Below.refl _ _).setCell (p := ⟨k.R, 4, none⟩) h.up _), hrow.other hne, h.rup, h.rin, h.wl, h.wb, h.wc, h.rowE, ?_, fun g hg' hn => ?_, h.pl⟩
  · have e1 : pathCells (ss.next ++ [(n, st)]) = pathCells ss.next ++ [.int .i64 (n : Int), .int .i64 (st : Int)] := by unfold pathCells; rw [List.flatMap_append]; rfl
    show (w2.setCell ⟨k.R, 4, none⟩ v').ownsRow k.B 105 2 v' (ss.next ++ [(n, st)]).length (pathCells (ss.next ++ [(n, st)]))
    rw [e1, List.length_append]
    exact own_set ho hblk (by decide)
  · rcases hv with hv | hv
    · exact h.nn g (hv ▸ hg') hn
    · rw [hv] at hg'
      cases hg'
      have := hnow _ hn
      have := hb.size
      omega
/-- What an append to the ways leaves of the search's own block. -/
theorem Sch.fro_push {k : SCon} {w w1 w2 : World} {p : Nat} {nowv nextv mv : Value} {rb ro rcap : Nat} {cs : Array Value} {ws : List Nat} {ss : SS} (h : Sch k w p nowv nextv mv rb ro rcap cs ws ss) (hb : Below w.heap.size w w1) (hg : w1.grownBy w2 nextv.ownBlock) : (∀ j, w2.frozen? ⟨k.R, j, none⟩ = false) ∧ Below k.B w1 w2 ∧ w2.cell? ⟨k.R, 4, none⟩ = some nextv := by
  have h1 := h.same hb
  have hx : Blk w2 k.R _ 97 := Blk.grown h1.blk hg fun q => by
    rcases h1.nx.2 with ⟨e, _⟩ | ⟨g', cap, cur, e, _, hr, _⟩
    · rw [e] at q; cases q
    · rw [e] at q
      injection q with q
      have hq := h1.blk.row
      rw [show k.R = g' from q, hr] at hq
      injection hq with hq
      injection hq with _ hq
      exact absurd hq (by decide)
  exact ⟨fun j => hx.fro j, (Below.refl k.B w1).grown hg h1.size (fun j hj => by
    rcases h1.nx.2 with ⟨e, _⟩ | ⟨g', cap, cur, e, hb', hr, _⟩
    · rw [e] at hj; cases hj
    · rw [e] at hj; cases hj; exact hb'), hx.cell 4⟩
end Go.Proofs.YtdfacbcenogplaaDoor

namespace Go.Proofs.YtdfacbcenogplaaDoor
open Go.RowKit Go.Lib Go.Maps

theorem Fol.roots {E : NEnv} {D : List Ins} {p start : Nat} {s s' : SS} {A B : Nat → Prop} (h : Fol E D p start s s' A) (e : ∀ n, A n ↔ B n) : Fol E D p start s s' B := by
  have : A = B := funext fun n => propext (e n)
  rw [← this]
  exact h
theorem nrow_new (w : World) (cs : Array Value) (t : TypeId) : ∀ (j : Nat) u, cs.toList[j]? = some u → (w.alloc (.cells cs t)).cell? ((⟨w.heap.size, 0, none⟩ : Addr).add j) = some u := fun j u hu => by
  have hb : Blk (w.alloc (.cells cs t)) w.heap.size cs t := Blk.new w cs t
  rw [show ((⟨w.heap.size, 0, none⟩ : Addr).add j) = ⟨w.heap.size, j, none⟩ by rw [Addr.add_lit, Nat.zero_add], hb.cell]
  rw [← Array.getElem?_toList]
  exact hu
theorem own_slice {w : World} {n : Nat} {t : TypeId} {z : Nat} {v : Value} {k : Nat} {xs : List Value} (h : w.ownsRow n t z v k xs) : ∃ A cap, v = .slice A k cap := by
  rcases h.2 with ⟨rfl, h0⟩ | ⟨g, cap, cur, rfl, _⟩
  · exact ⟨none, 0, by rw [h0]⟩
  · exact ⟨_, _, rfl⟩
theorem info_path : (Tryd.prog.info? 105).map (fun i => (i.zero, i.size, i.bytes)) = some (some (.agg #[.int .i64 0, .int .i64 0]), 2, 16) := by kernel_rfl
/-- What a follow leaves. -/
structure FolW (k : SCon) (E : NEnv) (w : World) (p : Nat) (nowv nextv mv : Value) (rb ro rcap : Nat) (cs : Array Value) (ws : List Nat) (ss : SS) (start : Nat) (roots : Nat → Prop) (w' : World) : Prop where
  ex : ∃ nextv' cs' ws' ss', Sch k w' p nowv nextv' mv rb ro rcap cs' ws' ss' ∧ Fol E k.C p start ss ss' roots ∧ (∀ i, i < ro ∨ ro + k.words ≤ i → cs'[i]? = cs[i]?) ∧ cs'.size = cs.size ∧ ss'.next.length + unset ws' k.C.length ≤ ss.next.length + unset ws k.C.length ∧ ∀ g, nextv'.ownBlock = some g → nextv.ownBlock = some g ∨ w.heap.size ≤ g
  low : Below k.B w w'
  oth : ∀ g, g < w.heap.size → g ≠ k.R → g ≠ rb → nextv.ownBlock ≠ some g → w'.heap[g]? = w.heap[g]?
theorem and_pow (x b : Nat) : x &&& 2 ^ b = (x.testBit b).toNat * 2 ^ b := by
  refine Nat.eq_of_testBit_eq fun j => ?_
  rw [Nat.testBit_and, Nat.testBit_two_pow]
  by_cases h : b = j
  · subst h
    cases x.testBit b <;> simp
  · cases x.testBit b <;> simp [h]
theorem bit_of {ws : List Nat} {n x : Nat} (h : ws[n / 64]? = some x) : bitW ws n ↔ x.testBit (n % 64) = true := by
  unfold bitW
  rw [List.getD_eq_getElem?_getD, h, Option.getD_some]
set_option maxRecDepth 100000 in
set_option maxHeartbeats 8000000 in
theorem follow_any (k : SCon) (K : Well k) (E : NEnv) (hE : E.hold = holdF k.s) : ∀ (f : Nat) (w : World) (p : Nat) (nowv nextv mv : Value) (rb ro rcap : Nat) (cs : Array Value) (ws : List Nat) (ss : SS) (number start : Nat), Sch k w p nowv nextv mv rb ro rcap cs ws ss → number < k.C.length → unset ws k.C.length < f → start ≤ p → (∀ g, nowv.ownBlock = some g → k.B ≤ g ∧ ∃ c, w.heap[g]? = some (.cells c 105 (0, 0))) → ss.next.length + unset ws k.C.length ≤ 200000 →
    Calls Tryd.prog 49 #[.pointer (some ⟨k.R, 0, none⟩), .int .i64 (number : Int), .int .i64 (start : Int)] w fun e w' => (∃ r, e = .returned r) ∧ FolW k E w p nowv nextv mv rb ro rcap cs ws ss start (fun i => i = number) w'
  | 0, _, _, _, _, _, _, _, _, _, _, _, _, _, _, _, hf, _, _, _ => absurd hf (Nat.not_lt_zero _)
  | f + 1, w, p, nowv, nextv, mv, rb, ro, rcap, cs, ws, ss, number, start, hS, hn, hf, hst, hnw, hlen => by
    have HS := Lib.hid hS
    have hBz := hS.size
    have HNG := Lib.hid (show ∀ g, nowv.ownBlock = some g → g < w.heap.size ∧ g ≠ k.R ∧ g ≠ rb ∧ nextv.ownBlock ≠ some g from fun g hg => by
      obtain ⟨_, c, hc⟩ := hnw g hg
      have h1 : Blk w g c 105 := ⟨hc⟩
      exact ⟨Blk.lt h1, Blk.apart h1 hS.blk (by decide), Blk.apart h1 hS.row (by decide), fun q => hS.nn g q hg⟩)
    have hwd := K.wds
    have hCl := K.len
    have hpl := hS.pl
    have hstr := K.str
    have hwn : number / 64 < k.words := by omega
    obtain ⟨x, hx⟩ : ∃ x, ws[number / 64]? = some x := ⟨_, List.getElem?_eq_getElem (by rw [hS.wl]; exact hwn)⟩
    have hxb : x < 18446744073709551616 := hS.wb x (List.mem_of_getElem? hx)
    have HBIT := Lib.hid (bit_of hx)
    obtain ⟨X, hX⟩ : ∃ X, k.C[number]? = some X := ⟨_, List.getElem?_eq_getElem hn⟩
    obtain ⟨wd, hwdd⟩ : ∃ wd, number / 64 = wd := ⟨_, rfl⟩
    obtain ⟨bt, hbt⟩ : ∃ bt, number % 64 = bt := ⟨_, rfl⟩
    have hbt2 : bt < 64 := by omega
    have e1 : ((number : Int)).tdiv 64 = (wd : Int) := by rw [← hwdd, Int.tdiv_eq_ediv_of_nonneg (by omega)]; omega
    have e2 : ((number : Int)).tmod 64 = (bt : Int) := by rw [← hbt, Int.tmod_eq_emod_of_nonneg (by omega)]; omega
    obtain ⟨v, hv⟩ : ∃ v, 2 ^ bt = v := ⟨_, rfl⟩
    have hv64 : v < 18446744073709551616 := by rw [← hv]; exact Nat.lt_of_lt_of_le (Nat.pow_lt_pow_right (by omega) hbt2) (by decide)
    have hv0 : 0 < v := by rw [← hv]; exact Nat.pow_pos (by omega)
    have e3 : IntKind.u64.wrap ((2 : Int) ^ bt) = (v : Int) := by
      rw [show (2 : Int) ^ bt = ((2 ^ bt : Nat) : Int) by rw [Int.natCast_pow]; rfl, hv]
      simp [IntKind.wrap, IntKind.bits, IntKind.signed]
      omega
    have hand := u64_and_nat x v hxb hv64
    have hor := u64_or_nat x v hxb hv64
    have hva : x &&& v = (x.testBit bt).toNat * v := by rw [← hv]; exact and_pow x bt
    have hyb : x ||| v < 18446744073709551616 := by
      have : (18446744073709551616 : Nat) = 2 ^ 64 := by decide
      rw [this] at hxb hv64 ⊢
      exact Nat.or_lt_two_pow hxb hv64
    obtain ⟨y, hy⟩ : ∃ y, x ||| v = y := ⟨_, rfl⟩
    rw [hy] at hor hyb
    have i1 : (0 : Int) ≤ (wd : Int) := by omega
    have i2 : (wd : Int) < (k.words : Int) := by omega
    have HV := Lib.hid (And.intro hv (And.intro hwdd (And.intro hbt (And.intro hx hy))))
    rw [hbt] at HBIT
    have hwb : wd < 2000 := by omega
    clear hx hS hwd hCl hv hy
    go_enter Tryd.func49, Tryd.ntmps49
    go_wp2_with fail
    go_quiet (fail)
    have hbq : Below w.heap.size w (w.drewN nq) := ⟨rfl, rfl, rfl, Nat.le_refl _, fun _ _ => rfl⟩
    have hsame : ∀ g : Nat, (w.drewN nq).heap[g]? = w.heap[g]? := fun _ => rfl
    have hS1 := HS.out.same hbq
    obtain ⟨w1, hw1⟩ : ∃ w1, w.drewN nq = w1 := ⟨_, rfl⟩
    rw [hw1] at hS1 hbq hsame ⊢
    have cx := (hS1.row.cell (ro + wd)).trans (hS1.wc _ _ (by rw [← HV.out.2.1]; exact HV.out.2.2.2.1))
    have fx := hS1.row.fro (ro + wd)
    obtain ⟨⟨c0, c1, c2, c3, c4, c5, c6, c7, c11⟩, fr⟩ := hS1.cells
    have HS1 := Lib.hid hS1
    have HQ := Lib.hid (And.intro hbq hsame)
    clear hS1 hw1 hbq hsame e1 e2 e3 hwdd hbt HS
    by_cases hmk : x.testBit bt = true
    · have hnd : bits .and .u64 (x : Int) (v : Int) = (v : Int) := by rw [hand, hva, hmk]; simp
      have hne : ((v : Int) != 0) = true := by simp; omega
      clear hand hor hva hX
      go_wp2_with fail
      (try simp only [Exit.inBlock, Exit.then])
      refine bodyPost_ret (results_none rfl _ _ _) rfl ?_
      exact ⟨⟨_, rfl⟩, ⟨_, cs, ws, ss, HS1.out, Fol.stay (by rw [HS1.out.rowE]; exact HBIT.out.2 hmk), fun _ _ => rfl, rfl, Nat.le_refl _, fun _ hg => .inl hg⟩, HQ.out.1.mono hBz, fun g _ _ _ _ => HQ.out.2 g⟩
    · have hnd : bits .and .u64 (x : Int) (v : Int) = 0 := by rw [hand, hva, show x.testBit bt = false by simpa using hmk]; simp
      have hS2 := HS1.out.mark (n := number) (x := x) (y := y) (by rw [HV.out.2.1]; omega) HV.out.2.2.2.1 (by rw [HV.out.2.2.1, HV.out.1]; exact HV.out.2.2.2.2) hyb
      rw [HV.out.2.1] at hS2
      obtain ⟨⟨d0, d1, d2, d3, d4, d5, d6, d7, d11⟩, gr⟩ := hS2.cells
      have dP := hS2.prg.blk.cell 2
      obtain ⟨sv, wa, wc, k0, _, _, _, k4, _, hwl, hways⟩ := hS2.prg.code.2 number X hX
      have HB2 := Lib.hid (show Below k.B w (w1.setCell ⟨rb, ro + wd, none⟩ (.int .u64 (y : Int))) from (HQ.out.1.mono hBz).trans ((Below.refl _ _).setCell (p := ⟨rb, ro + wd, none⟩) HS1.out.rup _))
      have HNW := Lib.hid (show ∀ g, g < w.heap.size → g ≠ k.R → g ≠ rb → nextv.ownBlock ≠ some g → (w1.setCell ⟨rb, ro + wd, none⟩ (.int .u64 (y : Int))).heap[g]? = w.heap[g]? from fun g _ _ h3 _ => by
        rw [Below.heap_setCell w1 ⟨rb, ro + wd, none⟩ _ g h3]
        exact HQ.out.2 g)
      have HCS := Lib.hid (show (∀ i, i < ro ∨ ro + k.words ≤ i → (cs.setIfInBounds (ro + wd) (Value.int .u64 (y : Int)))[i]? = cs[i]?) ∧ (cs.setIfInBounds (ro + wd) (Value.int .u64 (y : Int))).size = cs.size from ⟨fun i hi => by rw [Array.getElem?_setIfInBounds_ne (by omega)], by simp⟩)
      have hnrow : ¬ ss.row number := by rw [HS1.out.rowE]; exact fun h => hmk (HBIT.out.1 h)
      have hun : unset (setW ws number) k.C.length < unset ws k.C.length := unset_lt hn (fun h => hmk (HBIT.out.1 h)) (by rw [bitW_set (by rw [HS1.out.wl, HV.out.2.1]; omega)]; exact .inr rfl) (fun i h => by rw [bitW_set (by rw [HS1.out.wl, HV.out.2.1]; omega)]; exact .inl h)
      have n1 : (0 : Int) ≤ (number : Int) := by omega
      have n2 : (number : Int) < (k.C.length : Int) := by omega
      have HS2 := Lib.hid hS2
      have HW := Lib.hid (And.intro hwl hways)
      have HR := Lib.hid (And.intro hnrow hun)
      clear hand hva hS2 hwl hways hnrow hun
      by_cases z0 : X.kind = 0
      · have hn0 : number = 0 := (K.one number X hX).1 z0
        rw [z0] at k0
        have HF := Lib.hid (HS2.out.fin start)
        have HN0 := Lib.hid hn0
        have HX := Lib.hid hX
        clear hn0 hX z0
        go_wp2_with fail
        (try simp only [Exit.inBlock, Exit.then])
        refine bodyPost_ret (results_none rfl _ _ _) rfl ?_
        have hb3 := (((Below.refl k.B (w1.setCell ⟨rb, ro + wd, none⟩ (.int .u64 (y : Int)))).setCell (p := ⟨k.R, 5, none⟩) HS2.out.up (.bool true)).setCell (p := ⟨k.R, 6, none⟩) HS2.out.up (.int .i64 (start : Int))).setCell (p := ⟨k.R, 7, none⟩) HS2.out.up (.int .i64 (p : Int))
        have hend : Fol E k.C p start ss { ss.mark number with found := true, st := start, en := p } (fun i => i = number) := by
          have h0 := HN0.out
          have hX := HX.out
          have hr := HR.out.1
          rw [h0] at hX hr ⊢
          exact Fol.end K.one hX hr
        refine ⟨⟨_, rfl⟩, ⟨⟨_, _, _, _, HF.out, hend, HCS.out.1, HCS.out.2, ?_, fun _ hg => .inl hg⟩, HB2.out.trans hb3, fun g g1 g2 g3 g4 => ?_⟩⟩
        · have := HR.out.2
          show ss.next.length + _ ≤ _
          omega
        · rw [Below.heap_setCell _ ⟨k.R, 7, none⟩ _ g g2, Below.heap_setCell _ ⟨k.R, 6, none⟩ _ g g2, Below.heap_setCell _ ⟨k.R, 5, none⟩ _ g g2]
          exact HNW.out g g1 g2 g3 g4
      · have HX := Lib.hid hX
        by_cases zl : leafK X.kind
        · obtain ⟨i0, hi, hz0, hz1, hz2⟩ := info_parts info_path
          have hnl := HS2.out.nx
          have HI := Lib.hid (And.intro hi (And.intro hz0 (And.intro hz1 hz2)))
          have hlf := Fol.leaf (E := E) (p := p) (start := start) hX zl K.one HR.out.1
          have HLF := Lib.hid hlf
          have hBw := HS1.out.size
          have hnb : ss.next.length ≤ 200000 := by omega
          clear hX hlf hi hz0 hz1 hz2 z0
          rcases zl with z | z | z
          all_goals
            rw [z] at k0
            clear z
            go_wp2_with (at_builtin; refine wpList_append_own_at _ rfl _ _ 94 rfl k.B 105 i0 _ 2 16 Tryd.underlying94 HI.out.1 HI.out.2.1 HI.out.2.2.1 HI.out.2.2.2 rfl (by decide) nextv ss.next.length (pathCells ss.next) rfl (HS2.out.nx.alloc _) ⟨w1.heap.size, 0, none⟩ 1 1 [.int .i64 (number : Int), .int .i64 (start : Int)] rfl rfl (by simpa using nrow_new (w1.setCell ⟨rb, ro + wd, none⟩ (.int .u64 (y : Int))) #[.int .i64 (number : Int), .int .i64 (start : Int)] 105) (by simp [Value.oneCell']) (by unfold maxLen; omega) (by omega) (by simp; omega) ?_)
            intro v' w4 hown hgrow hnil hvb
            obtain ⟨A4, cap4, rfl⟩ := own_slice hown
            have hgl : ∀ g, nowv.ownBlock = some g → g < (w1.setCell ⟨rb, ro + wd, none⟩ (.int .u64 (y : Int))).heap.size := fun g hg => by
              obtain ⟨_, c, hc⟩ := hnw g hg
              have h1 := (Array.getElem?_eq_some_iff.1 hc).1
              have h2 := HQ.out.1.size
              simp
              omega
            have hba := (Below.refl (w1.setCell ⟨rb, ro + wd, none⟩ (.int .u64 (y : Int))).heap.size (w1.setCell ⟨rb, ro + wd, none⟩ (.int .u64 (y : Int)))).alloc (Nat.le_refl _) (.cells #[.int .i64 (number : Int), .int .i64 (start : Int)] 105)
            have hP := HS2.out.push (n := number) (st := start) hba hgrow hown (by simpa using hvb) hgl
            obtain ⟨hfr, hlow, hc4⟩ := HS2.out.fro_push hba hgrow
            have hf4 := hfr 4
            have HP := Lib.hid hP
            have HL := Lib.hid ((HB2.out.trans (hba.mono HS2.out.size)).trans hlow)
            have hsz : w.heap.size ≤ w1.heap.size := HQ.out.1.size
            have HN := Lib.hid (show ∀ g, g < w.heap.size → g ≠ k.R → g ≠ rb → nextv.ownBlock ≠ some g → w4.heap[g]? = w.heap[g]? from fun g g1 g2 g3 g4 => by
              have h1 := hgrow.block g (by simp; omega) (fun q => g4 q.symm)
              rw [h1, hba.block g (by simp; omega)]
              exact HNW.out g g1 g2 g3 g4)
            have HVB := Lib.hid (show ∀ g, (Value.slice A4 (ss.next.length + 1) cap4).ownBlock = some g → nextv.ownBlock = some g ∨ w.heap.size ≤ g from fun g hg => by
              rcases hvb with q | q
              · exact .inl (q ▸ hg)
              · rw [q] at hg
                cases hg
                exact .inr (by omega))
            clear hown hgrow hnil hvb hba hP hlow hgl
            go_wp2_with fail
            (try simp only [Exit.inBlock, Exit.then])
            refine bodyPost_ret (results_none rfl _ _ _) rfl ?_
            refine ⟨⟨_, rfl⟩, ⟨⟨_, _, _, _, HP.out, HLF.out, HCS.out.1, HCS.out.2, ?_, HVB.out⟩, HL.out.setCell (p := ⟨k.R, 4, none⟩) HS2.out.up _, fun g g1 g2 g3 g4 => ?_⟩⟩
            · have h1 := HR.out.2
              have h2 : (ss.next ++ [(number, start)]).length = ss.next.length + 1 := by simp
              show (ss.next ++ [(number, start)]).length + _ ≤ _
              omega
            · rw [Below.heap_setCell _ ⟨k.R, 4, none⟩ _ g g2]
              exact HN.out g g1 g2 g3 g4
        · by_cases z6 : X.kind = 6
          · have HHOLD := Lib.hid (show X.kind = 6 ∨ E.hold X.kind p = true from .inl z6)
            have HS3 := HS2
            have HB3 := HB2
            have HNW3 := HNW
            have HSZ3 := Lib.hid (show w.heap.size ≤ (w1.setCell ⟨rb, ro + wd, none⟩ (.int .u64 (y : Int))).heap.size from by have := HQ.out.1.size; simp; omega)
            have k0' := k0
            rw [z6] at k0'
            clear hX k0
            go_wp2_with fail
            have hL : X.ways.length ≤ 100000 := HW.out.1
            obtain ⟨L, hLL⟩ : ∃ L, X.ways.length = L := ⟨_, rfl⟩
            have HLL := Lib.hid hLL
            rw [hLL] at hL ⊢
            clear hLL
            go_loopw [99] (fun i wr => ∃ (j : Nat) (nv : Value) (csr : Array Value) (wsr : List Nat) (ssr : SS), i = .int .i64 (j : Int) ∧ j ≤ L ∧ Sch k wr p nowv nv mv rb ro rcap csr wsr ssr ∧ Fol E k.C p start (ss.mark number) ssr (fun m => (X.kind = 6 ∨ E.hold X.kind p = true) ∧ m ∈ X.ways.take j) ∧ ((∀ i, i < ro ∨ ro + k.words ≤ i → csr[i]? = cs[i]?) ∧ csr.size = cs.size) ∧ ssr.next.length + unset wsr k.C.length ≤ ss.next.length + unset (setW ws number) k.C.length ∧ (Below k.B w wr ∧ w.heap.size ≤ wr.heap.size ∧ ∀ g, nv.ownBlock = some g → nextv.ownBlock = some g ∨ w.heap.size ≤ g) ∧ ∀ g, g < w.heap.size → g ≠ k.R → g ≠ rb → nextv.ownBlock ≠ some g → wr.heap[g]? = w.heap[g]?) (fun i _ => L - (RowKit.intOf i).toNat)
            case atStart => exact ⟨0, _, _, _, _, rfl, Nat.zero_le _, HS3.out, (Fol.refl ..).roots (fun m => by simp), HCS.out, Nat.le_refl _, ⟨HB3.out, HSZ3.out, fun _ hg => .inl hg⟩, HNW3.out⟩
            case round =>
              obtain ⟨j, nv, csr, wsr, ssr, rfl, hj, hSr, hFr, hcsr, hlr, ⟨hbr, hsr, hvr⟩, hnr⟩ := hrel
              have HSr := Lib.hid hSr
              have HFr := Lib.hid hFr
              have HBr := Lib.hid (And.intro hcsr (And.intro hlr (And.intro (And.intro hbr (And.intro hsr hvr)) hnr)))
              by_cases hlt : j < L
              · obtain ⟨m, hm⟩ : ∃ m, X.ways[j]? = some m := ⟨_, List.getElem?_eq_getElem (by rw [HLL.out]; exact hlt)⟩
                obtain ⟨hb, e, hbl, hc⟩ := HW.out.2 j m hm
                subst e
                have hcell := (hbr.cell (p := ⟨hb, j, none⟩) hbl).trans ((HB2.out.cell (p := ⟨hb, j, none⟩) hbl).symm.trans hc)
                have hmem : m ∈ X.ways := List.mem_of_getElem? hm
                have hmC := (K.ins number X HX.out).1 m hmem
                have hmono : ∀ i, bitW (setW ws number) i → bitW wsr i := fun i hi => by
                  have := hFr.mono i
                  rw [hSr.rowE] at this
                  rw [HS2.out.rowE] at this
                  exact this hi
                have hun := unset_le (n := k.C.length) hmono
                have hcall := follow_any k K E hE f wr p nowv nv mv rb ro rcap csr wsr ssr m start hSr hmC (by have := HR.out.2; omega) hst (fun g hg => by
                  obtain ⟨h1, c, h2⟩ := hnw g hg
                  obtain ⟨n1, n2, n3, n4⟩ := HNG.out g hg
                  exact ⟨h1, c, (hnr g n1 n2 n3 n4).trans h2⟩) (by have := HR.out.2; omega)
                have HCALL := Lib.hid hcall
                have HM := Lib.hid (And.intro hm hmem)
                have q1 : (j : Int) < (L : Int) := by omega
                have q2 : ¬ (j : Int) < 0 := by omega
                clear hSr hFr hcsr hlr hbr hnr hc hm hmem hmono hun hcall hsr hvr
                go_wp2_with fail
                refine HCALL.out.mono ?_
                rintro e W4 ⟨⟨rv, rfl⟩, ⟨nv4, cs4, ws4, ss4, hS4, hF4, hc4, hz4, hl4, hv4⟩, hb4, hn4⟩
                have hsz4 : w.heap.size ≤ W4.heap.size := Nat.le_trans HBr.out.2.2.1.2.1 hb4.size
                have hF5 : Fol E k.C p start (ss.mark number) ss4 (fun i => (X.kind = 6 ∨ E.hold X.kind p = true) ∧ i ∈ X.ways.take (j + 1)) := (HFr.out.trans hF4).roots fun i => by
                  rw [List.take_add_one, HM.out.1, List.mem_append]
                  simp only [Option.toList_some, List.mem_singleton]
                  constructor
                  · rintro (⟨h1, h2⟩ | h1)
                    · exact ⟨h1, .inl h2⟩
                    · exact ⟨HHOLD.out, .inr h1⟩
                  · rintro ⟨h1, h2 | h2⟩
                    · exact .inl ⟨h1, h2⟩
                    · exact .inr h2
                have HE := Lib.hid (And.intro hS4 (And.intro hF5 (And.intro (And.intro (show ∀ i, i < ro ∨ ro + k.words ≤ i → cs4[i]? = cs[i]? from fun i hi => (hc4 i hi).trans (HBr.out.1.1 i hi)) (hz4.trans HBr.out.1.2)) (And.intro (Nat.le_trans hl4 HBr.out.2.1) (And.intro (And.intro (HBr.out.2.2.1.1.trans hb4) (And.intro hsz4 (show ∀ g, nv4.ownBlock = some g → nextv.ownBlock = some g ∨ w.heap.size ≤ g from fun g hg => (hv4 g hg).elim (fun q => HBr.out.2.2.1.2.2 g q) (fun q => .inr (by have := HBr.out.2.2.1.2.1; omega))))) (show ∀ g, g < w.heap.size → g ≠ k.R → g ≠ rb → nextv.ownBlock ≠ some g → W4.heap[g]? = w.heap[g]? from fun g g1 g2 g3 g4 => (hn4 g (by have := HBr.out.2.2.1.2.1; omega) g2 g3 (fun q => (HBr.out.2.2.1.2.2 g q).elim g4 (fun q => by omega))).trans (HBr.out.2.2.2 g g1 g2 g3 g4)))))))
                clear hS4 hF4 hc4 hz4 hl4 hb4 hn4 hF5 HCALL hv4 hsz4
                go_wp2_with fail
                go_roundw
                case rel => exact ⟨j + 1, nv4, cs4, ws4, ss4, by go_num, by omega, HE.out.1, HE.out.2.1, HE.out.2.2.1, HE.out.2.2.2.1, HE.out.2.2.2.2.1, HE.out.2.2.2.2.2⟩
                case measure => simp [RowKit.intOf]; omega
              · obtain rfl : j = L := by omega
                have hF5 := Fol.way HX.out z0 zl K.one HR.out.1 (hFr.roots (B := fun m => (X.kind = 6 ∨ E.hold X.kind p = true) ∧ m ∈ X.ways) fun m => by rw [List.take_of_length_le (by rw [HLL.out]; exact Nat.le_refl _)])
                have HE := Lib.hid hF5
                clear hSr hFr hcsr hlr hbr hnr hF5 hsr hvr
                go_wp2_with fail
                go_end0
                exact ⟨⟨_, rfl⟩, ⟨⟨_, _, _, _, HSr.out, HE.out, HBr.out.1.1, HBr.out.1.2, by have := HBr.out.2.1; have := HR.out.2; omega, HBr.out.2.2.1.2.2⟩, HBr.out.2.2.1.1, HBr.out.2.2.2⟩⟩
          · have e0 : (X.kind == 0) = false := beq_eq_false_iff_ne.2 z0
            have e2 : (X.kind == 2) = false := beq_eq_false_iff_ne.2 fun h => zl (.inl h)
            have e3 : (X.kind == 3) = false := beq_eq_false_iff_ne.2 fun h => zl (.inr (.inl h))
            have e4 : (X.kind == 4) = false := beq_eq_false_iff_ne.2 fun h => zl (.inr (.inr h))
            have e6 : (X.kind == 6) = false := beq_eq_false_iff_ne.2 z6
            have CH := Lib.hid (holds_any d1 d2 HS2.out.pl (by unfold maxLen; omega) X.kind)
            clear hX
            go_wp2_with fail
            refine CH.out.mono ?_
            rintro e w3 ⟨rfl, hb3⟩
            have HS3 := Lib.hid (HS2.out.same hb3)
            have HB3 := Lib.hid (HB2.out.trans (hb3.mono HS2.out.size))
            have HSZ3 := Lib.hid (show w.heap.size ≤ w3.heap.size from by have h1 := HQ.out.1.size; have h2 := hb3.size; simp at h2; omega)
            have HNW3 := Lib.hid (show ∀ g, g < w.heap.size → g ≠ k.R → g ≠ rb → nextv.ownBlock ≠ some g → w3.heap[g]? = w.heap[g]? from fun g g1 g2 g3 g4 => (hb3.block g (by have h1 := HQ.out.1.size; simp; omega)).trans (HNW.out g g1 g2 g3 g4))
            have k4' := (HB3.out.cell (p := ⟨k.cb, number * 5 + 4, none⟩) HS2.out.prg.code.1).trans ((HB2.out.cell (p := ⟨k.cb, number * 5 + 4, none⟩) HS2.out.prg.code.1).symm.trans k4)
            clear hb3 CH
            by_cases hh : holdF k.s X.kind p = true
            · have HHOLD := Lib.hid (show X.kind = 6 ∨ E.hold X.kind p = true from .inr (by rw [hE]; exact hh))
              go_wp2_with fail
              have hL : X.ways.length ≤ 100000 := HW.out.1
              obtain ⟨L, hLL⟩ : ∃ L, X.ways.length = L := ⟨_, rfl⟩
              have HLL := Lib.hid hLL
              rw [hLL] at hL ⊢
              clear hLL
              go_loopw [99] (fun i wr => ∃ (j : Nat) (nv : Value) (csr : Array Value) (wsr : List Nat) (ssr : SS), i = .int .i64 (j : Int) ∧ j ≤ L ∧ Sch k wr p nowv nv mv rb ro rcap csr wsr ssr ∧ Fol E k.C p start (ss.mark number) ssr (fun m => (X.kind = 6 ∨ E.hold X.kind p = true) ∧ m ∈ X.ways.take j) ∧ ((∀ i, i < ro ∨ ro + k.words ≤ i → csr[i]? = cs[i]?) ∧ csr.size = cs.size) ∧ ssr.next.length + unset wsr k.C.length ≤ ss.next.length + unset (setW ws number) k.C.length ∧ (Below k.B w wr ∧ w.heap.size ≤ wr.heap.size ∧ ∀ g, nv.ownBlock = some g → nextv.ownBlock = some g ∨ w.heap.size ≤ g) ∧ ∀ g, g < w.heap.size → g ≠ k.R → g ≠ rb → nextv.ownBlock ≠ some g → wr.heap[g]? = w.heap[g]?) (fun i _ => L - (RowKit.intOf i).toNat)
              case atStart => exact ⟨0, _, _, _, _, rfl, Nat.zero_le _, HS3.out, (Fol.refl ..).roots (fun m => by simp), HCS.out, Nat.le_refl _, ⟨HB3.out, HSZ3.out, fun _ hg => .inl hg⟩, HNW3.out⟩
              case round =>
                obtain ⟨j, nv, csr, wsr, ssr, rfl, hj, hSr, hFr, hcsr, hlr, ⟨hbr, hsr, hvr⟩, hnr⟩ := hrel
                have HSr := Lib.hid hSr
                have HFr := Lib.hid hFr
                have HBr := Lib.hid (And.intro hcsr (And.intro hlr (And.intro (And.intro hbr (And.intro hsr hvr)) hnr)))
                by_cases hlt : j < L
                · obtain ⟨m, hm⟩ : ∃ m, X.ways[j]? = some m := ⟨_, List.getElem?_eq_getElem (by rw [HLL.out]; exact hlt)⟩
                  obtain ⟨hb, e, hbl, hc⟩ := HW.out.2 j m hm
                  subst e
                  have hcell := (hbr.cell (p := ⟨hb, j, none⟩) hbl).trans ((HB2.out.cell (p := ⟨hb, j, none⟩) hbl).symm.trans hc)
                  have hmem : m ∈ X.ways := List.mem_of_getElem? hm
                  have hmC := (K.ins number X HX.out).1 m hmem
                  have hmono : ∀ i, bitW (setW ws number) i → bitW wsr i := fun i hi => by
                    have := hFr.mono i
                    rw [hSr.rowE] at this
                    rw [HS2.out.rowE] at this
                    exact this hi
                  have hun := unset_le (n := k.C.length) hmono
                  have hcall := follow_any k K E hE f wr p nowv nv mv rb ro rcap csr wsr ssr m start hSr hmC (by have := HR.out.2; omega) hst (fun g hg => by
                    obtain ⟨h1, c, h2⟩ := hnw g hg
                    obtain ⟨n1, n2, n3, n4⟩ := HNG.out g hg
                    exact ⟨h1, c, (hnr g n1 n2 n3 n4).trans h2⟩) (by have := HR.out.2; omega)
                  have HCALL := Lib.hid hcall
                  have HM := Lib.hid (And.intro hm hmem)
                  have q1 : (j : Int) < (L : Int) := by omega
                  have q2 : ¬ (j : Int) < 0 := by omega
                  clear hSr hFr hcsr hlr hbr hnr hc hm hmem hmono hun hcall hsr hvr
                  go_wp2_with fail
                  refine HCALL.out.mono ?_
                  rintro e W4 ⟨⟨rv, rfl⟩, ⟨nv4, cs4, ws4, ss4, hS4, hF4, hc4, hz4, hl4, hv4⟩, hb4, hn4⟩
                  have hsz4 : w.heap.size ≤ W4.heap.size := Nat.le_trans HBr.out.2.2.1.2.1 hb4.size
                  have hF5 : Fol E k.C p start (ss.mark number) ss4 (fun i => (X.kind = 6 ∨ E.hold X.kind p = true) ∧ i ∈ X.ways.take (j + 1)) := (HFr.out.trans hF4).roots fun i => by
                    rw [List.take_add_one, HM.out.1, List.mem_append]
                    simp only [Option.toList_some, List.mem_singleton]
                    constructor
                    · rintro (⟨h1, h2⟩ | h1)
                      · exact ⟨h1, .inl h2⟩
                      · exact ⟨HHOLD.out, .inr h1⟩
                    · rintro ⟨h1, h2 | h2⟩
                      · exact .inl ⟨h1, h2⟩
                      · exact .inr h2
                  have HE := Lib.hid (And.intro hS4 (And.intro hF5 (And.intro (And.intro (show ∀ i, i < ro ∨ ro + k.words ≤ i → cs4[i]? = cs[i]? from fun i hi => (hc4 i hi).trans (HBr.out.1.1 i hi)) (hz4.trans HBr.out.1.2)) (And.intro (Nat.le_trans hl4 HBr.out.2.1) (And.intro (And.intro (HBr.out.2.2.1.1.trans hb4) (And.intro hsz4 (show ∀ g, nv4.ownBlock = some g → nextv.ownBlock = some g ∨ w.heap.size ≤ g from fun g hg => (hv4 g hg).elim (fun q => HBr.out.2.2.1.2.2 g q) (fun q => .inr (by have := HBr.out.2.2.1.2.1; omega))))) (show ∀ g, g < w.heap.size → g ≠ k.R → g ≠ rb → nextv.ownBlock ≠ some g → W4.heap[g]? = w.heap[g]? from fun g g1 g2 g3 g4 => (hn4 g (by have := HBr.out.2.2.1.2.1; omega) g2 g3 (fun q => (HBr.out.2.2.1.2.2 g q).elim g4 (fun q => by omega))).trans (HBr.out.2.2.2 g g1 g2 g3 g4)))))))
                  clear hS4 hF4 hc4 hz4 hl4 hb4 hn4 hF5 HCALL hv4 hsz4
                  go_wp2_with fail
                  go_roundw
                  case rel => exact ⟨j + 1, nv4, cs4, ws4, ss4, by go_num, by omega, HE.out.1, HE.out.2.1, HE.out.2.2.1, HE.out.2.2.2.1, HE.out.2.2.2.2.1, HE.out.2.2.2.2.2⟩
                  case measure => simp [RowKit.intOf]; omega
                · obtain rfl : j = L := by omega
                  have hF5 := Fol.way HX.out z0 zl K.one HR.out.1 (hFr.roots (B := fun m => (X.kind = 6 ∨ E.hold X.kind p = true) ∧ m ∈ X.ways) fun m => by rw [List.take_of_length_le (by rw [HLL.out]; exact Nat.le_refl _)])
                  have HE := Lib.hid hF5
                  clear hSr hFr hcsr hlr hbr hnr hF5 hsr hvr
                  go_wp2_with fail
                  go_end0
                  exact ⟨⟨_, rfl⟩, ⟨⟨_, _, _, _, HSr.out, HE.out, HBr.out.1.1, HBr.out.1.2, by have := HBr.out.2.1; have := HR.out.2; omega, HBr.out.2.2.1.2.2⟩, HBr.out.2.2.1.1, HBr.out.2.2.2⟩⟩
            · have hh' : holdF k.s X.kind p = false := by simpa using hh
              have HF := Lib.hid (Fol.way (start := start) HX.out z0 zl K.one HR.out.1 ((Fol.refl E k.C p start (ss.mark number)).roots (B := fun m => (X.kind = 6 ∨ E.hold X.kind p = true) ∧ m ∈ X.ways) fun m => ⟨False.elim, fun h => h.1.elim z6 (by rw [hE]; exact hh)⟩))
              go_wp2_with fail
              go_end0
              exact ⟨⟨_, rfl⟩, ⟨⟨_, _, _, _, HS3.out, HF.out, HCS.out.1, HCS.out.2, by have := HR.out.2; show ss.next.length + _ ≤ _; omega, fun _ hg => .inl hg⟩, HB3.out, HNW3.out⟩⟩
end Go.Proofs.YtdfacbcenogplaaDoor

namespace Go.Proofs.YtdfacbcenogplaaDoor
open Go.RowKit Go.Lib Go.Maps

def putAll (cs : Array Value) : Nat → List Value → Array Value
  | _, [] => cs
  | o, v :: r => putAll (cs.setIfInBounds o v) (o + 1) r
theorem putAll_size : ∀ (vs : List Value) (cs : Array Value) (o : Nat), (putAll cs o vs).size = cs.size
  | [], _, _ => rfl
  | v :: r, cs, o => by rw [putAll, putAll_size r, Array.size_setIfInBounds]
theorem putAll_out : ∀ (vs : List Value) (cs : Array Value) (o i : Nat), i < o ∨ o + vs.length ≤ i → (putAll cs o vs)[i]? = cs[i]?
  | [], _, _, _, _ => rfl
  | v :: r, cs, o, i, h => by
    rw [putAll, putAll_out r _ _ i (by simp at h; omega), Array.getElem?_setIfInBounds_ne (by simp at h; omega)]
theorem putAll_in : ∀ (vs : List Value) (cs : Array Value) (o j : Nat) (u : Value), o + vs.length ≤ cs.size → vs[j]? = some u → (putAll cs o vs)[o + j]? = some u
  | [], _, _, _, _, _, h => by simp at h
  | v :: r, cs, o, 0, u, hs, h => by
    rw [putAll, putAll_out r _ _ _ (by omega)]
    simp at h
    subst h
    rw [Nat.add_zero, Array.getElem?_setIfInBounds_self_of_lt (by simp at hs; omega)]
  | v :: r, cs, o, j + 1, u, hs, h => by
    rw [putAll, show o + (j + 1) = o + 1 + j by omega]
    exact putAll_in r _ _ j u (by simp at hs ⊢; omega) (by simpa using h)
theorem blk_setCells {g : Nat} {t : TypeId} : ∀ (vs : List Value) (o : Nat) (w : World) (cs : Array Value), Blk w g cs t → Blk (w.setCells g o vs) g (putAll cs o vs) t
  | [], _, _, _, h => h
  | _ :: r, _, _, _, h => blk_setCells r _ _ _ h.set
theorem blk_setCells_other {g g' : Nat} {t : TypeId} {cs : Array Value} (hne : g ≠ g') : ∀ (vs : List Value) (o : Nat) (w : World), Blk w g cs t → Blk (w.setCells g' o vs) g cs t
  | [], _, _, h => h
  | _ :: r, _, _, h => blk_setCells_other hne r _ _ (h.other hne)
theorem below_setCells {B g : Nat} (hg : B ≤ g) {a : World} : ∀ (vs : List Value) (o : Nat) (w : World), Below B a w → Below B a (w.setCells g o vs)
  | [], _, _, h => h
  | _ :: r, o, _, h => below_setCells hg r _ _ (h.setCell (p := ⟨g, o, none⟩) hg _)
theorem own_setCells {n : Nat} {t t' : TypeId} {z k r : Nat} {v : Value} {xs : List Value} (ht : t ≠ t') : ∀ (vs : List Value) (o : Nat) (w : World) (c : Array Value), w.ownsRow n t z v k xs → Blk w r c t' → (w.setCells r o vs).ownsRow n t z v k xs
  | [], _, _, _, h, _ => h
  | _ :: rs, _, _, _, h, hr => own_setCells ht rs _ _ _ (own_set h hr ht) hr.set
theorem heap_setCells {g i : Nat} (hne : i ≠ g) : ∀ (vs : List Value) (o : Nat) (w : World), (w.setCells g o vs).heap[i]? = w.heap[i]?
  | [], _, _ => rfl
  | _ :: r, o, w => by
    rw [World.setCells, heap_setCells hne r, Below.heap_setCell w ⟨g, o, none⟩ _ i hne]
theorem bitW_zero (n : Nat) : bitW (List.replicate n 0) = fun _ => False := by
  funext i
  unfold bitW
  rw [List.getD_eq_getElem?_getD]
  refine propext ⟨fun h => ?_, False.elim⟩
  cases q : (List.replicate n 0)[i / 64]? with
  | none => rw [q] at h; simp at h
  | some x =>
    rw [q] at h
    have := List.mem_of_getElem? q
    rw [List.mem_replicate] at this
    rw [this.2] at h
    simp at h
theorem zero_u64 (w : World) : (zeroValue 144).run Tryd.prog w = .ok (.int .u64 0) w := by kernel_rfl
/-- At another place, the row empty. -/
theorem Sch.moved {k : SCon} {w : World} {p : Nat} {nowv nextv mv : Value} {rb ro rcap : Nat} {cs : Array Value} {ws : List Nat} {ss : SS} (h : Sch k w p nowv nextv mv rb ro rcap cs ws ss) {q : Nat} (hq : q ≤ k.s.size) :
    Sch k ((w.setCell ⟨k.R, 2, none⟩ (.int .i64 (q : Int))).setCells rb ro (List.replicate k.words (.int .u64 0))) q nowv nextv mv rb ro rcap (putAll cs ro (List.replicate k.words (.int .u64 0))) (List.replicate k.words 0) { ss with row := fun _ => False } := by
  have hne := Blk.apart h.row h.blk (by decide)
  have b1 : Blk (w.setCell ⟨k.R, 2, none⟩ (.int .i64 (q : Int))) k.R _ 97 := h.blk.set
  have r1 : Blk (w.setCell ⟨k.R, 2, none⟩ (.int .i64 (q : Int))) rb cs 144 := h.row.other hne
  refine ⟨blk_setCells_other (Ne.symm hne) _ _ _ b1, h.up, h.prg.below (below_setCells h.rup _ _ _ ((Below.refl _ _).setCell (p := ⟨k.R, 2, none⟩) h.up _)), blk_setCells _ _ _ _ r1, h.rup, by rw [putAll_size]; exact h.rin, by simp, fun x hx => by rw [(List.mem_replicate.1 hx).2]; decide, fun j x hj => ?_, (bitW_zero _).symm, own_setCells (by decide) _ _ _ _ (own_set h.nx h.blk (by decide)) r1, h.nn, hq⟩
  have hx := (List.mem_replicate.1 (List.mem_of_getElem? hj)).2
  have hjl := (List.getElem?_eq_some_iff.1 hj).1
  rw [List.length_replicate] at hjl
  rw [hx]
  exact putAll_in _ _ _ j _ (by rw [List.length_replicate]; exact h.rin) (by rw [List.getElem?_replicate, if_pos hjl]; rfl)
set_option maxRecDepth 100000 in
set_option maxHeartbeats 1000000 in
theorem move_any (k : SCon) (K : Well k) (hk : k.keep = false) (h0 : 0 < k.C.length) {w : World} {p : Nat} {nowv nextv mv : Value} {rb ro rcap : Nat} {cs : Array Value} {ws : List Nat} {ss : SS} (hS : Sch k w p nowv nextv mv rb ro rcap cs ws ss) {q : Nat} (hq : q ≤ k.s.size) :
    Calls Tryd.prog 48 #[.pointer (some ⟨k.R, 0, none⟩), .int .i64 (q : Int)] w fun e w' => (∃ r, e = .returned r) ∧ (∃ cs' ws', Sch k w' q nowv nextv mv rb ro rcap cs' ws' { ss with row := fun _ => False } ∧ cs'.size = cs.size) ∧ Below k.B w w' ∧ ∀ g, g ≠ k.R → g ≠ rb → w'.heap[g]? = w.heap[g]? := by
  have HS := Lib.hid hS
  have hwd := K.wds
  have hCl := K.len
  have hw0 : 0 < k.words := by omega
  have hne := Blk.apart hS.row hS.blk (by decide)
  have b1 : Blk (w.setCell ⟨k.R, 2, none⟩ (.int .i64 (q : Int))) k.R _ 97 := hS.blk.set
  have r1 : Blk (w.setCell ⟨k.R, 2, none⟩ (.int .i64 (q : Int))) rb cs 144 := hS.row.other hne
  have d8 := b1.cell 8
  have d11 := b1.cell 11
  simp only [List.setIfInBounds_toArray, List.set_cons_succ, List.set_cons_zero, List.getElem?_toArray, List.getElem?_cons_succ, List.getElem?_cons_zero] at d8 d11
  rw [hk] at d8
  have c2 := hS.blk.cell 2
  have fr := hS.blk.fro 2
  have hrun : ∀ ty, (Builtin.clear_ #[95] ty #[.slice (some ⟨rb, ro, none⟩) k.words rcap]).run Tryd.prog (w.setCell ⟨k.R, 2, none⟩ (.int .i64 (q : Int))) = .ok (.tuple #[]) ((w.setCell ⟨k.R, 2, none⟩ (.int .i64 (q : Int))).setCells rb ro (List.replicate k.words (.int .u64 0))) := fun ty =>
    run_clear_slice _ 95 144 ty (.int .u64 0) Tryd.underlying95 zero_u64 rfl rfl rb ro k.words rcap hw0 (fun j hj => by
      rw [r1.cell]
      obtain ⟨x, hx⟩ : ∃ x, ws[j]? = some x := ⟨_, List.getElem?_eq_getElem (by rw [HS.out.wl]; exact hj)⟩
      rw [HS.out.wc j x hx]
      rfl) (fun j _ => r1.fro _)
  have HM := Lib.hid (hS.moved hq)
  have HN := Lib.hid (show ∀ g, g ≠ k.R → g ≠ rb → ((w.setCell ⟨k.R, 2, none⟩ (.int .i64 (q : Int))).setCells rb ro (List.replicate k.words (.int .u64 0))).heap[g]? = w.heap[g]? from fun g h1 h2 => by
    rw [heap_setCells h2, Below.heap_setCell w ⟨k.R, 2, none⟩ _ g h1])
  clear hS b1 r1 hne hwd hCl
  go_enter Tryd.func48, Tryd.ntmps48
  go_wp2_with fail
  (try simp only [Exit.inBlock, Exit.then])
  refine bodyPost_ret (results_none rfl _ _ _) rfl ?_
  exact ⟨⟨_, rfl⟩, ⟨_, _, HM.out, putAll_size _ _ _⟩, below_setCells HS.out.rup _ _ _ ((Below.refl _ _).setCell (p := ⟨k.R, 2, none⟩) HS.out.up _), HN.out⟩
end Go.Proofs.YtdfacbcenogplaaDoor

namespace Go.Proofs.YtdfacbcenogplaaDoor
open Go.RowKit Go.Lib

/-- Past the ends of the string. -/
theorem nextZ_out (s : ByteArray) (i : Int) (b : Bool) (h : i < 0 ∨ (s.size : Int) ≤ i) : nextZ s i b = (0, 0) := if_pos h
theorem nextZ_in (s : ByteArray) (i : Nat) (b : Bool) (h : i < s.size) : nextZ s (i : Int) b = if b then ((s.get! i).toNat, 1) else chS s i := by
  unfold nextZ; rw [if_neg (by omega)]; rfl

theorem decodeGo_tail (s : ByteArray) (i : Nat) (h : i < s.size) : decodeGo (s.extract i s.size) = decodeN (s.size - i) (s.get! i).toNat (s.get! (i + 1)).toNat (s.get! (i + 2)).toNat (s.get! (i + 3)).toNat := by
  unfold decodeGo
  rw [if_neg (by rw [ByteArray.size_extract]; omega), decode_at, tail_get!, tail_get!, tail_get!, tail_get!, ByteArray.size_extract, Nat.min_self, Nat.sub_zero]
  simp only [Nat.add_zero, Nat.zero_add]
end Go.Proofs.YtdfacbcenogplaaDoor

namespace Go.Proofs.YtdfacbcenogplaaDoor
open Go.RowKit Go.Lib

theorem decodeN_lt (n b0 b1 b2 b3 : Nat) : (decodeN n b0 b1 b2 b3).1 ≤ 1114111 ∧ 1 ≤ (decodeN n b0 b1 b2 b3).2 ∧ (decodeN n b0 b1 b2 b3).2 ≤ 4 := by
  unfold decodeN
  repeat' split
  all_goals (simp only; omega)

set_option maxRecDepth 100000 in
set_option maxHeartbeats 1000000 in
theorem next_any (s : ByteArray) (i : Int) (b : Bool) (w : World) (hT : Utf8Tabs 4 5 w) (_hs : s.size ≤ 9223372036854775807) :
    Calls Tryd.prog 50 #[.string s, .int .i64 i, .bool b] w fun e w' => e = .returned (.tuple #[.int .i64 (nextZ s i b).1, .int .i64 (nextZ s i b).2]) ∧ Below w.heap.size w w' := by
  by_cases h0 : i < 0
  · rw [nextZ_out s i b (.inl h0)]
    clear hT
    go_enter Tryd.func50, Tryd.ntmps50
    go_wp2
    go_ret2
    exact ⟨rfl, Below.refl _ _⟩
  by_cases h1 : (s.size : Int) ≤ i
  · rw [nextZ_out s i b (.inr h1)]
    clear hT
    go_enter Tryd.func50, Tryd.ntmps50
    go_wp2
    go_ret2
    exact ⟨rfl, Below.refl _ _⟩
  obtain ⟨k, rfl⟩ : ∃ k : Nat, i = k := ⟨i.toNat, by omega⟩
  have hk : k < s.size := by omega
  have gk := get!_lt s k hk
  rw [nextZ_in s k b hk]
  cases b
  · have cD := Tryd.utf8_DecodeRuneInString (s.extract k s.size) w hT
    rw [decodeGo_tail s k hk] at cD
    have hd := decodeN_lt (s.size - k) (s.get! k).toNat (s.get! (k + 1)).toNat (s.get! (k + 2)).toNat (s.get! (k + 3)).toNat
    simp only [Bool.false_eq_true, if_false]
    unfold chS chN
    obtain ⟨R, hR⟩ : ∃ R, (decodeN (s.size - k) (s.get! k).toNat (s.get! (k + 1)).toNat (s.get! (k + 2)).toNat (s.get! (k + 3)).toNat).1 = R := ⟨_, rfl⟩
    obtain ⟨K, hK⟩ : ∃ K, (decodeN (s.size - k) (s.get! k).toNat (s.get! (k + 1)).toNat (s.get! (k + 2)).toNat (s.get! (k + 3)).toNat).2 = K := ⟨_, rfl⟩
    have hRK : decodeN (s.size - k) (s.get! k).toNat (s.get! (k + 1)).toNat (s.get! (k + 2)).toNat (s.get! (k + 3)).toNat = (R, K) := by rw [← hR, ← hK]
    rw [hRK] at cD hd ⊢
    simp only at hd
    obtain ⟨hd1, hd2, hd3⟩ := hd
    clear hR hK hRK hT
    have hb := get!_lt256 s k
    rw [← gk] at hb ⊢
    have GK := Lib.hid gk; clear gk
    have CD := Lib.hid cD; clear cD
    by_cases hr : R = 65533
    · by_cases hK1 : K = 1
      · subst hr; subst hK1
        rw [if_pos rfl]
        go_enter Tryd.func50, Tryd.ntmps50
        go_wp2_with (go_at_call 87; refine CD.out.mono ?_; rintro e w' ⟨rfl, hb⟩)
        go_ret2
        exact ⟨by simp, hb⟩
      · rw [if_neg (by simp; omega)]
        subst hr
        have hK1' : ((K : Int) == 1) = false := by simp; omega
        go_enter Tryd.func50, Tryd.ntmps50
        go_wp2_with (go_at_call 87; refine CD.out.mono ?_; rintro e w' ⟨rfl, hb⟩)
        go_ret2
        exact ⟨rfl, hb⟩
    · rw [if_neg (by simp; omega)]
      have hr' : ((R : Int) == 65533) = false := by simp; omega
      go_enter Tryd.func50, Tryd.ntmps50
      go_wp2_with (go_at_call 87; refine CD.out.mono ?_; rintro e w' ⟨rfl, hb⟩)
      go_ret2
      exact ⟨rfl, hb⟩
  · simp only [if_true]
    have hb := get!_lt256 s k
    rw [← gk] at hb ⊢
    have GK := Lib.hid gk; clear gk hT
    go_enter Tryd.func50, Tryd.ntmps50
    go_wp2
    go_ret2
    exact ⟨by simp, Below.refl _ _⟩

end Go.Proofs.YtdfacbcenogplaaDoor

namespace Go.Proofs.YtdfacbcenogplaaDoor
open Go.RowKit Go.Lib Go.Shelf
attribute [local go_sem] Oper.semAt_some

/-- A cell that is there lies in a block below the heap's size. -/
theorem lt_of_cell {W : World} {c o : Nat} {v : Value} (h : W.cell? ⟨c, o, none⟩ = some v) : c < W.heap.size := by
  by_cases hc : c < W.heap.size
  · exact hc
  · simp [World.cell?, Array.getElem?_eq_none (Nat.le_of_not_lt hc)] at h
end Go.Proofs.YtdfacbcenogplaaDoor
