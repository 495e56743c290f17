/- Several texts in one (Blocks of cells: what lies in them, and what is kept; Arrays in memory: what their maps read as; sums over what is left of a range; plain; Contracts of layer 8: an array's parts; Contracts of layer 8: an array that is nil; Contracts of layer 8: the entries of an array that is nil: maps.Values, slices.Collect; Plain: a heap of numbers, by places; what stands in order is told by its numbers. No walk here; Words for memory: a queue of items; Len, Less, Swap; Contracts of layer 7: the heap's up and down over a queue; Contracts of layer 7: an item pushed, an item popped). -/
import Derived.WalkSmall
import Derived.WalkKit
import Derived.WalkSpells
import Derived.WalkLawsBesides
import Derived.ProofKit
import Derived.Below
import Derived.Lib.Hide
import Derived.Laws.OwnMore
import Derived.Lib.SmallJoins
import Derived.Maps.OwnSet
import Derived.Maps.RangeWalk
import Derived.Test.YtdliiohjbnlieaaGreatDoorProg
import Derived.Test.YtdliiohjbnlieaaGreatDoorShelf
import Derived.Laws.IdiomRangeMap
import Derived.RangeFuncNested
import Derived.RangeFuncBound
import Derived.RangeFuncCalls
import Derived.RangeFuncLeaves
import Derived.Shelf.Abstract
import Derived.Shelf.RegionOpen
import Derived.OwnWalkIn
import Derived.TacticsInMore
import Derived.LoopNIn
import Derived.LoopIn
import Derived.Deep.Upon
import Derived.BigFrameIn
import Derived.RangeFuncBox
import Derived.RangeFuncFrom
import Derived.Laws.EntriesVeiled
import Derived.BigRegion
import Derived.BigQuiet
import Derived.Deep.QuietTactic
import Derived.Deep.RegionHeld3
import Derived.Deep.RegionLaw
import Derived.Maps.AppendAt
import Derived.LoopTactic
import Derived.Laws.MakeOwn
namespace Go.Proofs.YtdliiohjbnlieaaGreatDoor
open Go.RowKit Go.Lib

/-- Block g is this row of cells. -/
structure Blk (W : World) (g : Nat) (cs : Array Value) (t : TypeId) : Prop where
  row : W.heap[g]? = some (.cells cs t (0, 0))
theorem as_vint {κ : IntKind} {a b : Int} (h : a = b) : Value.int κ a = Value.int κ b := by rw [h]
theorem Blk.lt {W : World} {g : Nat} {cs : Array Value} {t : TypeId} (h : Blk W g cs t) : g < W.heap.size := (Array.getElem?_eq_some_iff.1 h.row).1
theorem Blk.cell {W : World} {g : Nat} {cs : Array Value} {t : TypeId} (h : Blk W g cs t) (j : Nat) : W.cell? ⟨g, j, none⟩ = cs[j]? := cell_of_row W _ j _ _ _ h.row
theorem Blk.fro {W : World} {g : Nat} {cs : Array Value} {t : TypeId} (h : Blk W g cs t) (j : Nat) : W.frozen? ⟨g, j, none⟩ = false := frozen_of_row W _ j _ _ h.row
theorem Blk.below {W W' : World} {g B : Nat} {cs : Array Value} {t : TypeId} (h : Blk W g cs t) (hb : Below B W W') (hg : g < B) : Blk W' g cs t := ⟨(hb.block g hg).trans h.row⟩
theorem Blk.new (w : World) (cs : Array Value) (t : TypeId) : Blk (w.alloc (.cells cs t)) w.heap.size cs t := ⟨heap_alloc_new w _⟩
theorem Blk.alloc {W : World} {g : Nat} {cs : Array Value} {t : TypeId} (h : Blk W g cs t) (o : Obj) : Blk (W.alloc o) g cs t := ⟨(Below.heap_alloc W o g h.lt).trans h.row⟩
theorem Blk.set {W : World} {g j : Nat} {cs : Array Value} {t : TypeId} {u : Value} (h : Blk W g cs t) : Blk (W.setCell ⟨g, j, none⟩ u) g (cs.setIfInBounds j u) t := ⟨heap_setCell_same W g j cs t u h.row⟩
theorem Blk.other {W : World} {g g' j : Nat} {cs : Array Value} {t : TypeId} {u : Value} (h : Blk W g cs t) (hne : g ≠ g') : Blk (W.setCell ⟨g', j, none⟩ u) g cs t := by
  refine ⟨?_⟩
  rw [Below.heap_setCell W ⟨g', j, none⟩ u g hne]
  exact h.row
theorem Blk.grown {W W' : World} {g : Nat} {cs : Array Value} {t : TypeId} {r : Option Nat} (h : Blk W g cs t) (hg : W.grownBy W' r) (hne : some g ≠ r) : Blk W' g cs t := ⟨(hg.block g h.lt hne).trans h.row⟩
/-- Of what was there nothing has turned but blocks a and m. -/
structure Off2 (a m : Nat) (w w' : World) : Prop where
  os : w'.os = w.os
  tape : w'.tape = w.tape
  output : w'.output = w.output
  size : w.heap.size ≤ w'.heap.size
  block : ∀ i, i < w.heap.size → i ≠ a → i ≠ m → w'.heap[i]? = w.heap[i]?
theorem Off2.of_below {a m : Nat} {w w' : World} (h : Below w.heap.size w w') : Off2 a m w w' := ⟨h.os, h.tape, h.output, h.size, fun i hi _ _ => h.block i hi⟩
theorem Off2.trans {a m : Nat} {w w1 w2 : World} (h : Off2 a m w w1) (k : Off2 a m w1 w2) : Off2 a m w w2 := ⟨k.os.trans h.os, k.tape.trans h.tape, k.output.trans h.output, Nat.le_trans h.size k.size, fun i hi h1 h2 => (k.block i (Nat.lt_of_lt_of_le hi h.size) h1 h2).trans (h.block i hi h1 h2)⟩
theorem Off2.turned {a m : Nat} {w w' : World} (ht : w.mapTurned w' m) : Off2 a m w w' := by
  have g := ht.grown
  exact ⟨g.os, g.tape, g.output, g.size, fun i hi _ h2 => g.block i hi (by simp; omega)⟩
theorem Off2.setCell (w : World) (a m j : Nat) (u : Value) : Off2 a m w (w.setCell ⟨a, j, none⟩ u) := by
  have b := (Below.refl 0 w).setCell (p := ⟨a, j, none⟩) (Nat.zero_le _) u
  exact ⟨b.os, b.tape, b.output, b.size, fun i _ h1 _ => Below.heap_setCell w ⟨a, j, none⟩ u i h1⟩
theorem Off2.below {a m B : Nat} {w w' : World} (h : Off2 a m w w') (h1 : B ≤ a) (h2 : B ≤ m) (h3 : B ≤ w.heap.size) : Below B w w' := ⟨h.os, h.tape, h.output, h.size, fun i hi => h.block i (by omega) (by omega) (by omega)⟩
theorem Blk.off2 {a m : Nat} {W W' : World} {g : Nat} {cs : Array Value} {t : TypeId} (h : Blk W g cs t) (o : Off2 a m W W') (h1 : g ≠ a) (h2 : g ≠ m) : Blk W' g cs t := ⟨(o.block g h.lt h1 h2).trans h.row⟩
/-- A store into a block that was not there: aside. -/
theorem Off2.fresh {a m : Nat} {w w' : World} (h : Off2 a m w w') {p : Addr} (hp : w.heap.size ≤ p.block) (u : Value) : Off2 a m w (w'.setCell p u) := by
  have b := (Below.refl 0 w').setCell (p := p) (Nat.zero_le _) u
  exact ⟨b.os.trans h.os, b.tape.trans h.tape, b.output.trans h.output, Nat.le_trans h.size b.size, fun i hi h1 h2 => (Below.heap_setCell w' p u i (by omega)).trans (h.block i hi h1 h2)⟩
end Go.Proofs.YtdliiohjbnlieaaGreatDoor

namespace Go.Proofs.YtdliiohjbnlieaaGreatDoor
open Go.RowKit Go.Lib Go.Maps

/-- What a map of pointers reads as: the pointers themselves. -/
abbrev AD := DataW Value
def asR (v : Value) : Option (AD × List MemPlace) := some (.held v, [])
def klS (s : ByteArray) : Lit := .string s.data.toList
abbrev ptrB (e : Nat) : Value := .pointer (some ⟨e, 0, none⟩)
abbrev nilP : Value := .pointer none
theorem law_s : Keyed Tryz.prog 9 := string_keyed Tryz.underlying9
theorem key_s {s : ByteArray} (h : s.size ≤ maxLen) : keyOf Tryz.prog 9 (.string s) = some (klS s) := Go.WideMaps.keyOf_string_mk Tryz.underlying9 h
theorem zeroE (w : World) : (zeroValue 49).run Tryz.prog w = .ok (.pointer none) w := by kernel_rfl
theorem look_run {W : World} {m n : Nat} {D : AD} {s : ByteArray} {v : Value} (h : W.ownsMap Tryz.prog 9 asR m n D) (hs : s.size ≤ maxLen) (hat : D.atKey (klS s) (.held nilP) = .held v) :
    (Instr.lookup 47 (.map (some m)) (.string s) false).run Tryz.prog W = .ok v W := by
  obtain ⟨u, ps, hr, hu⟩ := h.lookup law_s Tryz.underlying47 (zeroE W) (zd := .held nilP) (zp := []) rfl (key_s hs)
  unfold asR at hu
  rw [hat] at hu
  simp only [Option.some.injEq, Prod.mk.injEq, DataW.held.injEq] at hu
  rw [hr, hu.1]
theorem look_nil_run (W : World) {s : ByteArray} (hs : s.size ≤ maxLen) : (Instr.lookup 47 (.map none) (.string s) false).run Tryz.prog W = .ok nilP W := by
  have := Maps.look_nil (w := W) false law_s Tryz.underlying47 (zeroE W) (key_s hs)
  simpa using this
/-- Below, as the maps' laws say it. -/
theorem below_grown {w w' : World} (h : Below w.heap.size w w') : w.grownBy w' none := ⟨h.os, h.tape, h.output, h.size, fun i hi _ => h.block i hi⟩
/-- An array: two cells, and its map. -/
structure Arr (W : World) (a m n : Nat) (came : Int) (D : AD) : Prop where
  row : Blk W a #[.map (some m), .int .i64 came] 54
  own : W.ownsMap Tryz.prog 9 asR m n D
theorem Arr.below {W W' : World} {a m n : Nat} {came : Int} {D : AD} {B : Nat} (h : Arr W a m n came D) (hb : Below B W W') (ha : a < B) (hm : m < B) : Arr W' a m n came D := by
  refine ⟨⟨(hb.block a ha).trans h.row.row⟩, ?_⟩
  obtain ⟨es, clock, hh, F, hs, hD⟩ := h.own
  exact ⟨es, clock, (hb.block m hm).trans hh, F, hs, hD⟩
theorem Arr.off2 {W W' : World} {a m n x y : Nat} {came : Int} {D : AD} (h : Arr W a m n came D) (o : Off2 x y W W') (h1 : a ≠ x) (h2 : a ≠ y) (h3 : m ≠ x) (h4 : m ≠ y) : Arr W' a m n came D := by
  refine ⟨h.row.off2 o h1 h2, ?_⟩
  have hlt := h.own.lt
  obtain ⟨es, clock, hh, F, hs, hD⟩ := h.own
  exact ⟨es, clock, (o.block m hlt h3 h4).trans hh, F, hs, hD⟩
theorem Arr.setCell {W : World} {a m n : Nat} {came : Int} {D : AD} (h : Arr W a m n came D) {p : Addr} (ha : a ≠ p.block) (hm : m ≠ p.block) (u : Value) : Arr (W.setCell p u) a m n came D := by
  obtain ⟨b, off, s⟩ := p
  refine ⟨⟨?_⟩, h.own.setCell hm u⟩
  rw [Below.heap_setCell W ⟨b, off, s⟩ u a ha]
  exact h.row.row
theorem Arr.kept {W W' : World} {a m n : Nat} {came : Int} {D : AD} (h : Arr W a m n came D) (hb : Below W.heap.size W W') : Arr W' a m n came D := h.below hb h.row.lt h.own.lt
/-- An element. -/
abbrev Elt (W : World) (e : Nat) (key : ByteArray) (num kind : Int) (N : Nat) (S : ByteArray) (sub : Value) : Prop := Blk W e #[.string key, .int .i64 num, .int .i64 kind, .float .f64 N, .string S, sub] 52
/-- Sums over what is no longer left. -/
def totL (T : Lit → Int) (left : Lit → Bool) (es : List (Lit × AD)) : Int := (es.map fun p => if left p.1 = true then 0 else T p.1).sum
def totA (T : Lit → Int) (es : List (Lit × AD)) : Int := (es.map fun p => T p.1).sum
theorem totL_has (T : Lit → Int) {es : List (Lit × AD)} (hk : ∀ p ∈ es, WideAt.IsKeyLit p.1) : totL T (Maps.has (.map es : AD)) es = 0 := by
  unfold totL
  have : (es.map fun p => if Maps.has (.map es : AD) p.1 = true then 0 else T p.1) = es.map fun _ => (0 : Int) := by
    apply List.map_congr_left
    intro p hp
    rw [if_pos]
    exact List.any_eq_true.2 ⟨p, hp, WideAt.sameKey_self (hk p hp)⟩
  rw [this]
  clear this hk
  induction es with
  | nil => rfl
  | cons p es ih => rw [List.map_cons, List.sum_cons, ih]; rfl
theorem totL_none (T : Lit → Int) {left : Lit → Bool} (h : ∀ kl, left kl = false) (es : List (Lit × AD)) : totL T left es = totA T es := by
  unfold totL totA
  congr 1
  apply List.map_congr_left
  intro p _
  rw [h p.1]
  rfl
theorem totL_strike (T : Lit → Int) {left : Lit → Bool} {kl : Lit} (hl : left kl = true) : ∀ {es : List (Lit × AD)}, es.Pairwise (fun p q => p.1 ≠ q.1) → (∀ p ∈ es, WideAt.IsKeyLit p.1) → (∃ p ∈ es, p.1 = kl) → totL T (fun z => left z && !z.sameKey kl) es = totL T left es + T kl := by
  have away : ∀ (es : List (Lit × AD)), (∀ p ∈ es, p.1 ≠ kl) → totL T (fun z => left z && !z.sameKey kl) es = totL T left es := by
    intro es h
    unfold totL
    congr 1
    apply List.map_congr_left
    intro p hp
    have : p.1.sameKey kl = false := by
      cases q : p.1.sameKey kl with
      | false => rfl
      | true => exact absurd (WideAt.sameKey_eq q) (h p hp)
    show (if (left p.1 && !p.1.sameKey kl) = true then (0 : Int) else T p.1) = _
    rw [this]
    simp
  intro es
  induction es with
  | nil => intro _ _ h; obtain ⟨p, hp, _⟩ := h; cases hp
  | cons p es ih =>
    intro hp hk hex
    have hp1 := (List.pairwise_cons.1 hp).1
    have hp2 := (List.pairwise_cons.1 hp).2
    have cons : ∀ l : Lit → Bool, totL T l (p :: es) = (if l p.1 = true then 0 else T p.1) + totL T l es := fun l => by unfold totL; rw [List.map_cons, List.sum_cons]
    rw [cons, cons]
    by_cases e : p.1 = kl
    · subst e
      rw [away es (fun q hq => fun h => hp1 q hq h.symm)]
      show (if (left p.1 && !p.1.sameKey p.1) = true then (0 : Int) else T p.1) + _ = _
      rw [WideAt.sameKey_self (hk p (List.mem_cons_self ..)), hl]
      simp
      omega
    · have hne : p.1.sameKey kl = false := by
        cases q : p.1.sameKey kl with
        | false => rfl
        | true => exact absurd (WideAt.sameKey_eq q) e
      show (if (left p.1 && !p.1.sameKey kl) = true then (0 : Int) else T p.1) + _ = _
      rw [hne, ih hp2 (fun q hq => hk q (List.mem_cons_of_mem _ hq)) (by
        obtain ⟨q, hq, hqe⟩ := hex
        rcases List.mem_cons.1 hq with rfl | h
        · exact absurd hqe e
        · exact ⟨q, h, hqe⟩)]
      simp
      omega
theorem mem_of_at {es : List (Lit × AD)} {kl : Lit} {y : AD} (hk : WideAt.IsKeyLit kl) (hap : es.Pairwise (fun p q => p.1 ≠ q.1)) (hat : ∀ zd, (DataW.map es : AD).atKey kl zd = y) : ∃ p ∈ es, p.1 = kl ∧ p.2 = y := by
  have h := Maps.has_true_of_atKey hat
  obtain ⟨p, hp, hpk⟩ := List.any_eq_true.1 h
  have e := WideAt.sameKey_eq hpk
  refine ⟨p, hp, e, ?_⟩
  have := WideAt.atKey_mem (d := p.2) (.held nilP) hk hap (by rw [← e]; exact hp)
  rw [← this]
  exact hat _
end Go.Proofs.YtdliiohjbnlieaaGreatDoor

namespace Go.Proofs.YtdliiohjbnlieaaGreatDoor
open Go.RowKit Go.Lib Go.Maps

theorem asClone_any (s : ByteArray) (w : World) (hs : s.size ≤ 281474976710656) : Calls Tryz.prog 27 #[.string s] w fun e w' => e = .returned (.string s) ∧ Below w.heap.size w w' := by
  have C := Lib.hid (Tryz.stringslite_Clone s w hs)
  go_enter Tryz.func27, Tryz.ntmps27
  go_wp2_with fail
  refine C.out.mono ?_
  rintro e w' ⟨rfl, hB⟩
  go_wp2
  go_ret
  exact ⟨rfl, hB⟩
theorem held_any {W : World} {a m n : Nat} {came : Int} {D : AD} (h : Arr W a m n came D) : Calls Tryz.prog 19 #[ptrB a] W fun e w' => e = .returned (.map (some m)) ∧ W = w' := by
  have c0 : W.cell? ⟨a, 0, none⟩ = some (.map (some m)) := h.row.cell 0
  clear h
  go_enter Tryz.func19, Tryz.ntmps19
  go_wp2
  go_ret
  exact ⟨rfl, rfl⟩
theorem held_nil (W : World) : Calls Tryz.prog 19 #[nilP] W fun e w' => e = .returned (.map none) ∧ W = w' := by
  go_enter Tryz.func19, Tryz.ntmps19
  go_wp2
  go_ret
  exact ⟨rfl, rfl⟩
/-- What kind answers. -/
def KindIs (W : World) (v : Value) (k : Int) : Prop := Calls Tryz.prog 20 #[v] W fun e w' => e = .returned (.int .i64 k) ∧ W = w'
theorem kind_nil (W : World) : KindIs W nilP 0 := by
  unfold KindIs
  go_enter Tryz.func20, Tryz.ntmps20
  go_wp2
  go_ret
  exact ⟨rfl, rfl⟩
theorem kind_val {W : World} {e : Nat} {key : ByteArray} {num kind : Int} {N : Nat} {S : ByteArray} (h : Elt W e key num kind N S nilP) : KindIs W (ptrB e) 1 := by
  unfold KindIs
  have c5 : W.cell? ⟨e, 5, none⟩ = some nilP := h.cell 5
  clear h
  go_enter Tryz.func20, Tryz.ntmps20
  go_wp2
  go_ret
  exact ⟨rfl, rfl⟩
theorem kind_arr {W : World} {e s : Nat} {key : ByteArray} {num kind : Int} {N : Nat} {S : ByteArray} (h : Elt W e key num kind N S (ptrB s)) : KindIs W (ptrB e) 2 := by
  unfold KindIs
  have c5 : W.cell? ⟨e, 5, none⟩ = some (ptrB s) := h.cell 5
  clear h
  go_enter Tryz.func20, Tryz.ntmps20
  go_wp2
  go_ret
  exact ⟨rfl, rfl⟩
theorem kindKey_any {W : World} {a m n : Nat} {came : Int} {D : AD} (h : Arr W a m n came D) (s : ByteArray) (hs : s.size ≤ maxLen) {v : Value} {k : Int} (hat : D.atKey (klS s) (.held nilP) = .held v) (hk : KindIs W v k) :
    Calls Tryz.prog 12 #[ptrB a, .string s] W fun e w' => e = .returned (.int .i64 k) ∧ W = w' := by
  have CH := Lib.hid (held_any h)
  have hl := look_run h.own hs hat
  have CK := Lib.hid hk
  clear h hat hk
  go_enter Tryz.func12, Tryz.ntmps12
  go_wp2_with fail
  refine CH.out.mono ?_
  rintro e w' ⟨rfl, rfl⟩
  go_wp2_with fail
  refine (show Calls _ _ _ _ _ from CK.out).mono ?_
  rintro e w' ⟨rfl, rfl⟩
  go_wp2
  go_ret
  exact ⟨rfl, rfl⟩
theorem asLen_any {W : World} {a m n : Nat} {came : Int} {D : AD} (h : Arr W a m n came D) :
    Calls Tryz.prog 10 #[ptrB a] W fun e w' => e = .returned (.int .i64 (Maps.size D)) ∧ W = w' := by
  have CH := Lib.hid (held_any h)
  have hl := fun ty => h.own.len (t := 47) Tryz.underlying47 ty
  clear h
  go_enter Tryz.func10, Tryz.ntmps10
  go_wp2_with fail
  refine CH.out.mono ?_
  rintro e w' ⟨rfl, rfl⟩
  go_wp2
  go_ret
  exact ⟨rfl, rfl⟩
theorem Blk.three {W : World} {g : Nat} {a b c : Value} {t : TypeId} (h : Blk W g #[a, b, c] t) : W.cell? ⟨g, 0, none⟩ = some a ∧ W.cell? ⟨g, 1, none⟩ = some b ∧ W.cell? ⟨g, 2, none⟩ = some c ∧ W.frozen? ⟨g, 0, none⟩ = false ∧ W.frozen? ⟨g, 1, none⟩ = false ∧ W.frozen? ⟨g, 2, none⟩ = false :=
  ⟨h.cell 0, h.cell 1, h.cell 2, h.fro 0, h.fro 1, h.fro 2⟩
theorem as_end3 {w W : World} {B B0 : Nat} {t : TypeId} {a0 a1 a2 : Value} (v0 v1 v2 : Value) (F : Blk W B #[a0, a1, a2] t) (h : Below B0 w W) (hB : B0 ≤ B) :
    Blk (((W.setCell ⟨B, 0, none⟩ v0).setCell ⟨B, 1, none⟩ v1).setCell ⟨B, 2, none⟩ v2) B #[v0, v1, v2] t ∧ Below B0 w (((W.setCell ⟨B, 0, none⟩ v0).setCell ⟨B, 1, none⟩ v1).setCell ⟨B, 2, none⟩ v2) :=
  ⟨((F.set (j := 0) (u := v0)).set (j := 1) (u := v1)).set (j := 2) (u := v2), ((h.setCell (p := ⟨B, 0, none⟩) hB _).setCell (p := ⟨B, 1, none⟩) hB _).setCell (p := ⟨B, 2, none⟩) hB _⟩
theorem as_store_float (a : Addr) (n : Nat) (m : Mode) (w : World) : (store a (.float .f64 n) m).run Tryz.prog w = stored Tryz.prog w a (.float .f64 n) m := run_store _ w a _ m rfl
/-- Values of the definition. -/
theorem asText_any (s : ByteArray) (w : World) : Calls Tryz.prog 18 #[.string s] w fun e w' => e = .returned (.agg #[.int .i64 2, .float .f64 0, .string s]) ∧ Below w.heap.size w w' := by
  have F := Blk.new w #[.int .i64 0, .float .f64 0, .string ⟨#[]⟩] 27
  obtain ⟨q0, q1, q2, r0, r1, r2⟩ := F.three
  have hst := as_store_float
  clear F
  go_enter Tryz.func18, Tryz.ntmps18
  go_wp2_with fail
  exact bodyPost_ret (v := .agg #[.int .i64 2, .float .f64 0, .string s]) (by simp [results, Tryz.results18, go_sem]) rfl ⟨rfl, (Below.refl w.heap.size w).alloc (Nat.le_refl _) _⟩
theorem asOf_any (x : Nat) (w : World) : Calls Tryz.prog 17 #[.float .f64 x] w fun e w' => e = .returned (.agg #[.int .i64 1, .float .f64 x, .string ⟨#[]⟩]) ∧ Below w.heap.size w w' := by
  have F := Blk.new w #[.int .i64 0, .float .f64 0, .string ⟨#[]⟩] 27
  obtain ⟨q0, q1, q2, r0, r1, r2⟩ := F.three
  have hst := as_store_float
  clear F
  go_enter Tryz.func17, Tryz.ntmps17
  go_wp2_with fail
  exact bodyPost_ret (v := .agg #[.int .i64 1, .float .f64 x, .string ⟨#[]⟩]) (by simp [results, Tryz.results17, go_sem]) rfl ⟨rfl, (Below.refl w.heap.size w).alloc (Nat.le_refl _) _⟩
/-- copied: the same value. -/
theorem copied_any (kind : Int) (N : Nat) (S : ByteArray) (w : World) (hs : S.size ≤ 281474976710656) : Calls Tryz.prog 21 #[.agg #[.int .i64 kind, .float .f64 N, .string S]] w fun e w' => e = .returned (.agg #[.int .i64 kind, .float .f64 N, .string S]) ∧ Below w.heap.size w w' := by
  have C := Lib.hid (fun W => asClone_any S W hs)
  have F := (Blk.new w #[.int .i64 kind, .float .f64 N, .string S] 27).alloc (.cells #[.int .i64 0, .float .f64 0, .string ⟨#[]⟩] 27)
  have G := Blk.new (w.alloc (.cells #[.int .i64 kind, .float .f64 N, .string S] 27)) #[.int .i64 0, .float .f64 0, .string ⟨#[]⟩] 27
  rw [World.size_alloc] at G
  have hb := ((Below.refl w.heap.size w).alloc (Nat.le_refl _) (.cells #[.int .i64 kind, .float .f64 N, .string S] 27)).alloc (by simp) (.cells #[.int .i64 0, .float .f64 0, .string ⟨#[]⟩] 27)
  obtain ⟨q0, q1, q2, r0, r1, r2⟩ := F.three
  obtain ⟨W2, hW2⟩ : ∃ W2, (w.alloc (.cells #[.int .i64 kind, .float .f64 N, .string S] 27)).alloc (.cells #[.int .i64 0, .float .f64 0, .string ⟨#[]⟩] 27) = W2 := ⟨_, rfl⟩
  rw [hW2] at F G hb q0 q1 q2 r0 r1 r2
  have HW2 := Lib.hid hW2
  have HF := Lib.hid F
  have HG := Lib.hid G
  have HB := Lib.hid hb
  clear hW2 F G hb
  go_enter Tryz.func21, Tryz.ntmps21
  go_wp2_with fail
  rw [HW2.out]
  refine (C.out _).mono ?_
  rintro e w' ⟨rfl, h2⟩
  clear q0 q1 q2 r0 r1 r2
  have hle := HB.out.size
  have F2 := HF.out.below h2 HF.out.lt
  have G2 := HG.out.below h2 HG.out.lt
  have HB2 := HB.out.trans (h2.mono hle)
  clear h2 HW2 HF HG HB
  obtain ⟨q0, q1, q2, r0, r1, r2⟩ := F2.three
  obtain ⟨u0, u1, u2, s0, s1, s2⟩ := G2.three
  have hst := as_store_float
  go_wp2_with fail
  clear q0 q1 q2 r0 r1 r2 u0 u1 u2 s0 s1 s2
  have G3 := G2.other (g' := w.heap.size) (j := 2) (u := .string S) (by omega)
  have HB3 := HB2.setCell (p := ⟨w.heap.size, 2, none⟩) (Nat.le_refl _) (.string S)
  obtain ⟨z, hz⟩ := as_end3 (.int .i64 kind) (.float .f64 N) (.string S) G3 HB3 (Nat.le_succ _)
  obtain ⟨q0, q1, q2, -⟩ := z.three
  exact bodyPost_ret (v := .agg #[.int .i64 kind, .float .f64 N, .string S]) (by simp [results, Tryz.results21, go_sem, q0, q1, q2]) rfl ⟨rfl, hz⟩
end Go.Proofs.YtdliiohjbnlieaaGreatDoor

namespace Go.Proofs.YtdliiohjbnlieaaGreatDoor
open Go.RowKit Go.Lib

theorem nilKind_any (s : ByteArray) (hs : s.size ≤ maxLen) (W : World) : Calls Tryz.prog 12 #[nilP, .string s] W fun e w' => e = .returned (.int .i64 0) ∧ W = w' := by
  have CH := Lib.hid (held_nil W)
  have CK := Lib.hid (kind_nil W)
  have hl := look_nil_run W hs
  go_enter Tryz.func12, Tryz.ntmps12
  go_wp2_with fail
  refine CH.out.mono ?_
  rintro e w' ⟨rfl, rfl⟩
  go_wp2_with fail
  refine (show Calls _ _ _ _ _ from CK.out).mono ?_
  rintro e w' ⟨rfl, rfl⟩
  go_wp2_with fail
  go_ret
  exact ⟨rfl, rfl⟩
theorem nilLen_any (W : World) : Calls Tryz.prog 10 #[nilP] W fun e w' => e = .returned (.int .i64 0) ∧ W = w' := by
  have CH := Lib.hid (held_nil W)
  go_enter Tryz.func10, Tryz.ntmps10
  go_wp2_with fail
  refine CH.out.mono ?_
  rintro e w' ⟨rfl, rfl⟩
  go_wp2_with fail
  go_ret
  exact ⟨rfl, rfl⟩
theorem nilSet_any (s : ByteArray) (k : Int) (n : Nat) (t : ByteArray) (W : World) : Calls Tryz.prog 14 #[nilP, .string s, .agg #[.int .i64 k, .float .f64 n, .string t]] W fun e w' => e = .returned (.int .i64 2) ∧ Below W.heap.size W w' := by
  have hst := as_store_float
  go_enter Tryz.func14, Tryz.ntmps14
  go_wp2_with fail
  go_ret
  exact ⟨rfl, (Below.refl W.heap.size W).alloc (Nat.le_refl _) _⟩
theorem nilSub_any (s : ByteArray) (W : World) : Calls Tryz.prog 7 #[nilP, .string s] W fun e w' => e = .returned (.tuple #[nilP, .int .i64 2]) ∧ W = w' := by
  go_enter Tryz.func7, Tryz.ntmps7
  go_wp2_with fail
  go_ret2
  exact ⟨rfl, rfl⟩
set_option maxRecDepth 100000 in
theorem nilDelete_any (s : ByteArray) (hs : s.size ≤ maxLen) (W : World) : Calls Tryz.prog 15 #[nilP, .string s] W fun e w' => e = .returned (.bool false) ∧ W = w' := by
  have CH := Lib.hid (held_nil W)
  have hl : (Instr.lookup 47 (.map none) (.string s) true).run Tryz.prog W = .ok (.tuple #[nilP, .bool false]) W := by
    have := Maps.look_nil (w := W) true law_s Tryz.underlying47 (zeroE W) (key_s hs)
    simpa using this
  have hd := fun ty => Maps.drop_nil (w := W) law_s Tryz.underlying47 (key_s hs) ty
  go_enter Tryz.func15, Tryz.ntmps15
  go_wp2_with fail
  refine CH.out.mono ?_
  rintro e w' ⟨rfl, rfl⟩
  go_wp2_with fail
  refine CH.out.mono ?_
  rintro e w' ⟨rfl, rfl⟩
  go_wp2_with fail
  go_ret
  exact ⟨rfl, rfl⟩
set_option maxRecDepth 100000 in
theorem nilClear_any (W : World) : Calls Tryz.prog 5 #[nilP] W fun e w' => (∃ r, e = .returned r) ∧ W = w' := by
  have CH := Lib.hid (held_nil W)
  have hc : ∀ ty, (Builtin.clear_ #[47] ty #[.map none]).run Tryz.prog W = .ok (.tuple #[]) W := fun ty => by
    simp [Builtin.clear_, run_underlying Tryz.underlying47, Result.andThen]
  go_enter Tryz.func5, Tryz.ntmps5
  go_wp2_with fail
  refine CH.out.mono ?_
  rintro e w' ⟨rfl, rfl⟩
  go_wp2_with fail
  go_end0
  exact ⟨⟨_, rfl⟩, rfl⟩
theorem nilGet_any (s : ByteArray) (hs : s.size ≤ maxLen) (W : World) : Calls Tryz.prog 6 #[nilP, .string s] W fun e w' => e = .returned (.tuple #[.agg #[.int .i64 0, .float .f64 0, .string ⟨#[]⟩], .bool false]) ∧ Below W.heap.size W w' := by
  have CH := Lib.hid (fun W => held_nil W)
  have CK := Lib.hid (fun W => kind_nil W)
  have hl := fun W => look_nil_run W hs
  have hst := as_store_float
  go_enter Tryz.func6, Tryz.ntmps6
  go_wp2_with fail
  refine (CH.out _).mono ?_
  rintro e w' ⟨rfl, rfl⟩
  go_wp2_with fail
  refine (show Calls _ _ _ _ _ from CK.out _).mono ?_
  rintro e w' ⟨rfl, rfl⟩
  have F := Blk.new W #[.int .i64 0, .float .f64 0, .string ⟨#[]⟩] 27
  obtain ⟨q0, q1, q2, r0, r1, r2⟩ := F.three
  clear F
  go_wp2_with fail
  exact bodyPost_ret (v := .tuple #[.agg #[.int .i64 0, .float .f64 0, .string ⟨#[]⟩], .bool false]) (by simp [results, Tryz.results6, go_sem]) rfl ⟨rfl, (Below.refl W.heap.size W).alloc (Nat.le_refl _) _⟩
set_option maxRecDepth 100000 in
theorem nilTotal_any (W : World) : Calls Tryz.prog 11 #[nilP] W fun e w' => e = .returned (.int .i64 0) ∧ Below W.heap.size W w' := by
  have CH := Lib.hid (held_nil W)
  have hr := run_range_nilMap (P := Tryz.prog) W 47 _ _ Tryz.underlying47
  have hx := fun ty => run_next_nilMap (P := Tryz.prog) W ty 0 0 #[]
  go_enter Tryz.func11, Tryz.ntmps11
  go_wp2_with fail
  refine CH.out.mono ?_
  rintro e w' ⟨rfl, rfl⟩
  go_wp2_with fail
  go_loopw [3] (fun v wr => v = .int .i64 0 ∧ wr = W.alloc (.mapIter none 0 #[] 0)) (fun _ _ => 0)
  case atStart => exact ⟨rfl, rfl⟩
  case round =>
    obtain ⟨rfl, rfl⟩ := hrel
    go_wp2_with fail
    go_ret
    exact ⟨rfl, (Below.refl W.heap.size W).alloc (Nat.le_refl _) _⟩
end Go.Proofs.YtdliiohjbnlieaaGreatDoor

namespace Go.Proofs.YtdliiohjbnlieaaGreatDoor
open Go.RowKit Go.Lib

theorem valuesNil_any (W : World) : Calls Tryz.prog 29 #[.map none] W fun e w' => e = .returned (.func (.func 40) #[] #[.pointer (some ⟨W.heap.size, 0, none⟩)]) ∧ W.alloc (.cells #[.map none] 47) = w' := by
  go_enter Tryz.func29, Tryz.ntmps29
  go_wp2_with fail
  go_ret
  exact ⟨rfl, rfl⟩
set_option maxRecDepth 100000 in
set_option maxHeartbeats 1000000 in
theorem valuesNil_stops (n : Nat) (B : Nat) (w : World) (h1 : w.cell? ⟨B, 0, none⟩ = some (.map none)) :
    SeqStopsK Fence.wide n Tryz.prog 40 #[.pointer (some ⟨B, 0, none⟩)] (fun _ : Unit => #[.pointer none]) (fun _ _ => True) (fun xs => xs = []) (fun _ => False) 0 w := fun l J Jx W hW hJ hJx hY h0 => by
  have c1 : W.cell? ⟨B, 0, none⟩ = some (.map none) := (hW.cell (p := ⟨B, 0, none⟩) (World.block_lt_of_cell? w _ h1)).trans h1
  have hr := run_range_nilMap (P := Tryz.prog) W 47 _ _ Tryz.underlying47
  have hx := fun ty => run_next_nilMap (P := Tryz.prog) W ty 0 0 #[]
  have hj : J [] (W.alloc (.mapIter none 0 #[] 0)) := hJ _ _ _ none h0 (World.grownBy_alloc W _ none) (fun r e => by cases e)
  have HJ := Lib.hid hj
  clear h1 hW hJ hJx hY h0 hj
  refine callsIn_of_wp Tryz.func40 rfl trivial ?_ rfl
  simp only [Tryz.ntmps40, List.size_toArray, List.length_cons, List.length_nil, Nat.reduceAdd, Nat.reduceSub, Array.replicate_succ, Array.replicate_zero, List.push_toArray, List.append_toArray, List.nil_append, List.cons_append]
  gi_wp2
  gi_loopw [8] (fun _ wr => wr = W.alloc (.mapIter none 0 #[] 0)) (fun _ _ => 0)
  case atStart => rfl
  case round =>
    obtain rfl := hrel
    gi_wp2
    go_end0
    exact ⟨⟨_, rfl⟩, .inl ⟨_, rfl, HJ.out⟩⟩
set_option maxRecDepth 100000 in
set_option maxHeartbeats 1000000 in
theorem appendNil_in (B : Nat) (w : World) (h1 : w.cell? ⟨B, 0, none⟩ = some (.map none)) :
    CallsIn Fence.wide 10 Tryz.prog 52 #[.slice none 0 0, .func (.func 40) #[] #[.pointer (some ⟨B, 0, none⟩)]] w fun e w' => e = .returned (.slice none 0 0) ∧ Below w.heap.size w w' := by
  have x0 := Boxed.new w 67 (.slice none 0 0)
  have c0 : (w.alloc (.cells #[.slice none 0 0] 67)).cell? ⟨B, 0, none⟩ = some (.map none) := ((Below.refl w.heap.size w).alloc (Nat.le_refl _) _).cell (p := ⟨B, 0, none⟩) (World.block_lt_of_cell? w _ h1) |>.trans h1
  have hb0 := (Below.refl w.heap.size w).alloc (Nat.le_refl _) (.cells #[.slice none 0 0] 67)
  have SV := Lib.hid (valuesNil_stops 9 B _ c0)
  have X0 := Lib.hid x0
  have HB0 := Lib.hid hb0
  clear x0 c0 hb0 h1
  refine callsIn_of_wp_marks Tryz.func52 rfl trivial ?_ rfl
  simp only [Tryz.ntmps52, List.size_toArray, List.length_cons, List.length_nil, Nat.reduceAdd, Nat.reduceSub, Array.replicate_succ, Array.replicate_zero, List.push_toArray, List.append_toArray, List.nil_append, List.cons_append]
  gi_wp2
  refine wpIn_rangeFunc_ownF rfl (by omega) (gf := 40) (lb := #[.pointer (some ⟨B, 0, none⟩)]) rfl trivial (enters_of Tryz.func40 (by kernel_rfl) rfl)
    SV.out (fun _ _ => trivial) (fun _ _ _ _ _ _ _ _ => trivial) (Below.refl _ _) (fun _ => rfl)
    (fun _ W => Boxed W w.heap.size 67 (.slice none 0 0) ∧ Below w.heap.size w W) (fun _ _ _ => False) ?hI ?hIx ⟨X0.out, HB0.out⟩ (fun _ => { tmps := #[.slice none 0 0, (.func (.func 40) #[] #[.pointer (some ⟨B, 0, none⟩)]), .pointer (some ⟨w.heap.size, 0, none⟩), undef, .slice none 0 0, .pointer none, (.func (.func 40) #[] #[.pointer (some ⟨B, 0, none⟩)]), .pointer none, undef, undef, undef, undef, undef], defers := [] }) ?assign ?body ?done ?stop
  case hI =>
    refine OwnFrom.and (Own.from (fun st A C row hs hg hr => ?_) _) (ownFrom_below (Nat.le_refl _) (by simp))
    exact hs.kept hg (fun e => by
      obtain ⟨o, ho, hc⟩ := hr _ e.symm
      rw [show A.heap[w.heap.size]? = _ from hs] at ho
      cases ho
      cases hc)
  case hIx => exact fun _ _ _ _ _ hs _ _ => hs
  case assign =>
    intro l k W K hK
    gi_wp2
    rw [Oper.semAt_some _ _ _ (by intro c h; cases h)]
    simp [execOp, Oper.uponIn, go_sem, Act.eval, Act.put]
    rename_i ha
    exact ha _ _ hK
  case body =>
    intro _ _ _ _ _ h
    exact absurd h (Nat.not_lt_zero _)
  case done =>
    rintro D xs W hD rfl ⟨b0, hB⟩ hK
    have c := b0.cell
    have HB := Lib.hid hB
    have hD2 : w.heap.size ≤ D := by simp at hD; omega
    clear hB b0 SV X0 HB0 hD
    gi_wp2
    refine ⟨by simp, .inl ⟨_, _, rfl, run_takeDeferred hK, ?_⟩⟩
    exact ⟨_, results_tmp rfl _ _ _, rfl, HB.out.trans (belowK_b (w := w) (Nat.le_refl _) W D _ _ hD2 hK rfl rfl)⟩
  case stop =>
    rintro D c pre W _ h
    exact h.elim
set_option maxRecDepth 100000 in
theorem collectNil_any (B : Nat) (w : World) (h1 : w.cell? ⟨B, 0, none⟩ = some (.map none)) :
    Calls Tryz.prog 38 #[.func (.func 40) #[] #[.pointer (some ⟨B, 0, none⟩)]] w fun e w' => e = .returned (.slice none 0 0) ∧ Below w.heap.size w w' := by
  have CA := Lib.hid (callsIn_wide.1 (appendNil_in B w h1))
  clear h1
  go_enter Tryz.func38, Tryz.ntmps38
  go_wp2_with fail
  refine CA.out.mono ?_
  rintro e w' ⟨rfl, hb⟩
  have HB := Lib.hid hb
  clear hb CA
  go_wp2_with fail
  go_ret
  exact ⟨rfl, HB.out⟩
end Go.Proofs.YtdliiohjbnlieaaGreatDoor

namespace Go.Proofs.YtdliiohjbnlieaaGreatDoor

structure Ord (lt : Nat → Nat → Bool) : Prop where
  asym : ∀ a b, lt a b = true → lt b a = false
  total : ∀ a b, a ≠ b → lt a b = false → lt b a = true
  trans : ∀ a b c, lt a b = true → lt b c = true → lt a c = true
theorem Ord.irr {lt : Nat → Nat → Bool} (o : Ord lt) (a : Nat) : lt a a = false := by
  cases h : lt a a with
  | false => rfl
  | true => have := o.asym a a h; rw [h] at this; cases this
theorem Ord.ntrans {lt : Nat → Nat → Bool} (o : Ord lt) {a b c : Nat} (h1 : lt a b = false) (h2 : lt b c = false) : lt a c = false := by
  by_cases e1 : a = b
  · rw [e1]; exact h2
  · by_cases e2 : b = c
    · rw [← e2]; exact h1
    · exact o.asym c a (o.trans c b a (o.total b c e2 h2) (o.total a b e1 h1))
/-- Two places change what they hold. -/
def swp (f : Nat → Nat) (i j : Nat) : Nat → Nat := fun k => if k = i then f j else if k = j then f i else f k
theorem swp_i (f : Nat → Nat) (i j : Nat) : swp f i j i = f j := if_pos rfl
theorem swp_j (f : Nat → Nat) (i j : Nat) : swp f i j j = f i := by
  unfold swp
  by_cases h : j = i
  · rw [if_pos h, h]
  · rw [if_neg h, if_pos rfl]
theorem swp_o (f : Nat → Nat) {i j k : Nat} (h1 : k ≠ i) (h2 : k ≠ j) : swp f i j k = f k := by
  unfold swp
  rw [if_neg h1, if_neg h2]
/-- The first n places hold just the numbers of S, each once. -/
structure Hold (f : Nat → Nat) (n : Nat) (S : Nat → Prop) : Prop where
  inj : ∀ i j, i < n → j < n → f i = f j → i = j
  on : ∀ a, S a ↔ ∃ i, i < n ∧ f i = a
theorem Hold.swp {f : Nat → Nat} {n i j : Nat} {S : Nat → Prop} (h : Hold f n S) (hi : i < n) (hj : j < n) : Hold (swp f i j) n S := by
  have key : ∀ k, k < n → ∃ q, q < n ∧ Go.Proofs.YtdliiohjbnlieaaGreatDoor.swp f i j k = f q ∧ Go.Proofs.YtdliiohjbnlieaaGreatDoor.swp f i j q = f k := fun k hk => by
    by_cases h1 : k = i
    · subst h1; exact ⟨j, hj, swp_i _ _ _, swp_j _ _ _⟩
    · by_cases h2 : k = j
      · subst h2; exact ⟨i, hi, swp_j _ _ _, swp_i _ _ _⟩
      · exact ⟨k, hk, swp_o _ h1 h2, swp_o _ h1 h2⟩
  refine ⟨fun a b ha hb e => ?_, fun a => ?_⟩
  · obtain ⟨p, hp, e1, e2⟩ := key a ha
    obtain ⟨q, hq, e3, e4⟩ := key b hb
    rw [e1, e3] at e
    have e5 := h.inj p q hp hq e
    subst e5
    rw [e2] at e4
    exact h.inj a b ha hb e4
  · rw [h.on]
    constructor
    · rintro ⟨k, hk, rfl⟩
      obtain ⟨q, hq, _, e2⟩ := key k hk
      exact ⟨q, hq, e2⟩
    · rintro ⟨k, hk, rfl⟩
      obtain ⟨q, hq, e1, _⟩ := key k hk
      exact ⟨q, hq, e1.symm⟩
theorem Hold.push {f f' : Nat → Nat} {n x : Nat} {S : Nat → Prop} (h : Hold f n S) (hf : ∀ k, k < n → f' k = f k) (hx : f' n = x) (hn : ¬ S x) : Hold f' (n + 1) (fun a => S a ∨ a = x) := by
  have no : ∀ k, k < n → f k ≠ x := fun k hk e => hn ((h.on x).2 ⟨k, hk, e⟩)
  refine ⟨fun a b ha hb e => ?_, fun a => ?_⟩
  · by_cases h1 : a = n
    · by_cases h2 : b = n
      · rw [h1, h2]
      · exfalso
        rw [h1, hx, hf b (by omega)] at e
        exact no b (by omega) e.symm
    · by_cases h2 : b = n
      · exfalso
        rw [h2, hx, hf a (by omega)] at e
        exact no a (by omega) e
      · rw [hf a (by omega), hf b (by omega)] at e
        exact h.inj a b (by omega) (by omega) e
  · constructor
    · rintro (h1 | rfl)
      · obtain ⟨k, hk, e⟩ := (h.on a).1 h1
        exact ⟨k, by omega, (hf k hk).trans e⟩
      · exact ⟨n, by omega, hx⟩
    · rintro ⟨k, hk, e⟩
      by_cases h1 : k = n
      · rw [h1, hx] at e
        exact Or.inr e.symm
      · rw [hf k (by omega)] at e
        exact Or.inl ((h.on a).2 ⟨k, by omega, e⟩)
theorem Hold.pop {f : Nat → Nat} {n : Nat} {S : Nat → Prop} (h : Hold f (n + 1) S) : Hold f n (fun a => S a ∧ a ≠ f n) := by
  refine ⟨fun a b ha hb e => h.inj a b (by omega) (by omega) e, fun a => ?_⟩
  constructor
  · rintro ⟨h1, h2⟩
    obtain ⟨k, hk, e⟩ := (h.on a).1 h1
    refine ⟨k, ?_, e⟩
    by_cases h3 : k = n
    · rw [h3] at e; exact absurd e.symm h2
    · omega
  · rintro ⟨k, hk, rfl⟩
    refine ⟨(h.on _).2 ⟨k, by omega, rfl⟩, fun e => ?_⟩
    have := h.inj k n (by omega) (by omega) e
    omega
/-- None is less than the one above it. -/
def Heap (lt : Nat → Nat → Bool) (f : Nat → Nat) (n : Nat) : Prop := ∀ k, 0 < k → k < n → lt (f k) (f ((k - 1) / 2)) = false
theorem Heap.least {lt : Nat → Nat → Bool} (o : Ord lt) {f : Nat → Nat} {n : Nat} (h : Heap lt f n) : ∀ k, k < n → lt (f k) (f 0) = false := by
  intro k
  induction k using Nat.strongRecOn with
  | _ k ih =>
    intro hk
    by_cases h0 : k = 0
    · rw [h0]; exact o.irr _
    · exact o.ntrans (h k (by omega) hk) (ih ((k - 1) / 2) (by omega) (by omega))
/-- As a heap, but for the place j, which may have to go up. -/
def UpH (lt : Nat → Nat → Bool) (f : Nat → Nat) (n j : Nat) : Prop :=
  (∀ k, 0 < k → k < n → k ≠ j → lt (f k) (f ((k - 1) / 2)) = false) ∧ (∀ k, 0 < k → k < n → (k - 1) / 2 = j → 0 < j → lt (f k) (f ((j - 1) / 2)) = false)
theorem UpH.start {lt : Nat → Nat → Bool} {f f' : Nat → Nat} {n : Nat} (h : Heap lt f n) (hf : ∀ k, k < n → f' k = f k) : UpH lt f' (n + 1) n := by
  refine ⟨fun k h0 hk hne => ?_, fun k h0 hk e _ => by omega⟩
  rw [hf k (by omega), hf ((k - 1) / 2) (by omega)]
  exact h k h0 (by omega)
theorem UpH.done {lt : Nat → Nat → Bool} {f : Nat → Nat} {n j : Nat} (h : UpH lt f n j) (hd : j = 0 ∨ lt (f j) (f ((j - 1) / 2)) = false) : Heap lt f n := fun k h0 hk => by
  by_cases e : k = j
  · subst e
    rcases hd with h1 | h1
    · omega
    · exact h1
  · exact h.1 k h0 hk e
theorem UpH.step {lt : Nat → Nat → Bool} (o : Ord lt) {f : Nat → Nat} {n i j : Nat} (h : UpH lt f n j) (h0 : 0 < j) (hj : j < n) (hi : (j - 1) / 2 = i) (hl : lt (f j) (f i) = true) : UpH lt (swp f i j) n i := by
  subst hi
  obtain ⟨i, hi⟩ : ∃ i, (j - 1) / 2 = i := ⟨_, rfl⟩
  rw [hi] at hl ⊢
  have hij : i < j := by omega
  obtain ⟨h1, h2⟩ := h
  refine ⟨fun k k0 hk hne => ?_, fun k k0 hk e i0 => ?_⟩
  · by_cases e : k = j
    · subst e
      rw [swp_j, hi, swp_i]
      exact o.asym _ _ hl
    · rw [swp_o _ hne e]
      by_cases p1 : (k - 1) / 2 = i
      · rw [p1, swp_i]
        cases q : lt (f k) (f j) with
        | false => rfl
        | true =>
          have := h1 k k0 hk e
          rw [p1, o.trans _ _ _ q hl] at this
          cases this
      · by_cases p2 : (k - 1) / 2 = j
        · rw [p2, swp_j]
          have := h2 k k0 hk p2 h0
          rwa [hi] at this
        · rw [swp_o _ p1 p2]
          exact h1 k k0 hk e
  · rw [swp_o (k := (i - 1) / 2) _ (by omega) (by omega)]
    have hii := h1 i i0 (by omega) (by omega)
    by_cases e2 : k = j
    · subst e2
      rw [swp_j]
      exact hii
    · rw [swp_o _ (by omega) e2]
      have := h1 k k0 hk e2
      rw [e] at this
      exact o.ntrans this hii
/-- As a heap, but for the place i, which may have to go down. -/
def DownH (lt : Nat → Nat → Bool) (f : Nat → Nat) (n i : Nat) : Prop :=
  (∀ k, 0 < k → k < n → (k - 1) / 2 ≠ i → lt (f k) (f ((k - 1) / 2)) = false) ∧ (∀ k, 0 < k → k < n → (k - 1) / 2 = i → 0 < i → lt (f k) (f ((i - 1) / 2)) = false)
theorem DownH.start {lt : Nat → Nat → Bool} {f : Nat → Nat} {n : Nat} (h : Heap lt f (n + 1)) : DownH lt (swp f 0 n) n 0 := by
  refine ⟨fun k h0 hk hne => ?_, fun k h0 hk e i0 => by omega⟩
  rw [swp_o _ (by omega) (by omega), swp_o _ hne (by omega)]
  exact h k h0 (by omega)
theorem DownH.done {lt : Nat → Nat → Bool} {f : Nat → Nat} {n i : Nat} (h : DownH lt f n i) (hd : ∀ k, 0 < k → k < n → (k - 1) / 2 = i → lt (f k) (f i) = false) : Heap lt f n := fun k h0 hk => by
  by_cases e : (k - 1) / 2 = i
  · rw [e]; exact hd k h0 hk e
  · exact h.1 k h0 hk e
theorem DownH.step {lt : Nat → Nat → Bool} (o : Ord lt) {f : Nat → Nat} {n i j : Nat} (h : DownH lt f n i) (hj : j < n) (j0 : 0 < j) (hi : (j - 1) / 2 = i)
    (hs : ∀ k, 0 < k → k < n → (k - 1) / 2 = i → lt (f k) (f j) = false) (hl : lt (f j) (f i) = true) : DownH lt (swp f i j) n j := by
  have hij : i < j := by omega
  obtain ⟨h1, h2⟩ := h
  refine ⟨fun k k0 hk hne => ?_, fun k k0 hk e _ => ?_⟩
  · by_cases p1 : (k - 1) / 2 = i
    · rw [p1, swp_i]
      by_cases e : k = j
      · subst e
        rw [swp_j]
        exact o.asym _ _ hl
      · rw [swp_o _ (by omega) e]
        exact hs k k0 hk p1
    · rw [swp_o (k := (k - 1) / 2) _ p1 hne]
      by_cases e : k = i
      · subst e
        rw [swp_i]
        exact h2 j j0 hj hi k0
      · rw [swp_o _ e (fun e2 => p1 (by rw [e2]; exact hi))]
        exact h1 k k0 hk p1
  · rw [hi, swp_i, swp_o _ (by omega) (by omega)]
    have := h1 k k0 hk (by omega)
    rwa [e] at this
/-- The numbers below n, in order. -/
structure InOrder (lt : Nat → Nat → Bool) (n : Nat) (l : List Nat) : Prop where
  rises : l.Pairwise (fun a b => lt a b = true)
  all : ∀ a, a ∈ l ↔ a < n
  len : l.length = n
/-- One more at the end of what has been taken out. -/
structure Taken (lt : Nat → Nat → Bool) (n : Nat) (out : List Nat) (f : Nat → Nat) (m : Nat) : Prop where
  rises : out.Pairwise (fun a b => lt a b = true)
  some' : Hold f m (fun a => a < n ∧ a ∉ out)
  below : ∀ a, a ∈ out → a < n
  ahead : ∀ a b, a ∈ out → b < n → b ∉ out → lt a b = true
  len : out.length + m = n
theorem Taken.start {lt : Nat → Nat → Bool} {n : Nat} {f : Nat → Nat} (h : Hold f n (fun a => a < n)) : Taken lt n [] f n :=
  ⟨List.Pairwise.nil, ⟨h.inj, fun a => by rw [← h.on]; simp⟩, fun a h => by simp at h, fun a b h => by simp at h, by simp⟩
theorem Taken.step {lt : Nat → Nat → Bool} (o : Ord lt) {n m x : Nat} {out : List Nat} {f f' : Nat → Nat} (h : Taken lt n out f (m + 1)) (hp : Heap lt f (m + 1)) (hx : f 0 = x) (hf : Hold f' m (fun a => (a < n ∧ a ∉ out) ∧ a ≠ x)) : Taken lt n (out ++ [x]) f' m := by
  have hxm : x < n ∧ x ∉ out := (h.some'.on x).2 ⟨0, by omega, hx⟩
  refine ⟨?_, ?_, ?_, ?_, ?_⟩
  · rw [List.pairwise_append]
    refine ⟨h.rises, List.pairwise_singleton _ _, fun a ha b hb => ?_⟩
    rw [List.mem_singleton.1 hb]
    exact h.ahead a x ha hxm.1 hxm.2
  · refine ⟨hf.inj, fun a => ?_⟩
    rw [← hf.on, List.mem_append, List.mem_singleton]
    constructor
    · rintro ⟨h1, h2⟩
      exact ⟨⟨h1, fun k => h2 (Or.inl k)⟩, fun k => h2 (Or.inr k)⟩
    · rintro ⟨⟨h1, h2⟩, h3⟩
      exact ⟨h1, fun k => k.elim h2 h3⟩
  · intro a ha
    rcases List.mem_append.1 ha with k | k
    · exact h.below a k
    · rw [List.mem_singleton.1 k]; exact hxm.1
  · intro a b ha hb hbn
    rw [List.mem_append, List.mem_singleton] at hbn
    rcases List.mem_append.1 ha with k | k
    · exact h.ahead a b k hb (fun q => hbn (Or.inl q))
    · rw [List.mem_singleton.1 k]
      obtain ⟨i, hi, e⟩ := (h.some'.on b).1 ⟨hb, fun q => hbn (Or.inl q)⟩
      have hl := Heap.least o hp i hi
      rw [hx, e] at hl
      exact o.total b x (fun q => hbn (Or.inr q)) hl
  · have := h.len
    rw [List.length_append, List.length_singleton]
    omega
theorem Taken.done {lt : Nat → Nat → Bool} {n : Nat} {out : List Nat} {f : Nat → Nat} (h : Taken lt n out f 0) : InOrder lt n out := by
  refine ⟨h.rises, fun a => ⟨h.below a, fun ha => ?_⟩, by have := h.len; omega⟩
  by_cases k : a ∈ out
  · exact k
  · obtain ⟨i, hi, _⟩ := (h.some'.on a).1 ⟨ha, k⟩
    omega
end Go.Proofs.YtdliiohjbnlieaaGreatDoor

namespace Go.Proofs.YtdliiohjbnlieaaGreatDoor
open Go.RowKit Go.Lib

abbrev iptr (b : Nat) : Value := .pointer (some ⟨b, 0, none⟩)
abbrev fval (f : FuncId) : Value := .func (.func f) #[] #[]
/-- The items' pointers, place by place. -/
def ptrs (p : Nat → Nat) (n : Nat) : List Value := (List.range n).map fun k => iptr (p k)
theorem ptrs_len (p : Nat → Nat) (n : Nat) : (ptrs p n).length = n := by unfold ptrs; rw [List.length_map, List.length_range]
theorem ptrs_at (p : Nat → Nat) {n k : Nat} (h : k < n) : (ptrs p n)[k]? = some (iptr (p k)) := by
  unfold ptrs
  rw [List.getElem?_map, List.getElem?_range h]
  rfl
theorem ptrs_congr {p q : Nat → Nat} {n : Nat} (h : ∀ k, k < n → p k = q k) : ptrs p n = ptrs q n := by
  unfold ptrs
  apply List.map_congr_left
  intro k hk
  rw [h k (List.mem_range.1 hk)]
theorem ptrs_set (p : Nat → Nat) (n k b : Nat) : (ptrs p n).set k (iptr b) = ptrs (fun j => if j = k then b else p j) n := by
  apply List.ext_getElem?
  intro j
  rw [List.getElem?_set]
  by_cases hj : j < n
  · rw [ptrs_at _ hj]
    by_cases e : k = j
    · subst e
      rw [if_pos rfl, if_pos (by rw [ptrs_len]; exact hj), ptrs_at _ hj, if_pos rfl]
    · rw [if_neg e, ptrs_at _ hj, if_neg (fun h => e h.symm)]
  · have h1 : ∀ q : Nat → Nat, (ptrs q n)[j]? = none := fun q => List.getElem?_eq_none (by rw [ptrs_len]; omega)
    rw [h1, h1]
    by_cases e : k = j
    · subst e
      rw [if_pos rfl, if_neg (by rw [ptrs_len]; exact hj)]
    · rw [if_neg e]
theorem ptrs_snoc (p : Nat → Nat) (n b : Nat) : ptrs p n ++ [iptr b] = ptrs (fun j => if j = n then b else p j) (n + 1) := by
  unfold ptrs
  rw [List.range_succ, List.map_append]
  congr 1
  · apply List.map_congr_left
    intro k hk
    have h := List.mem_range.1 hk
    show iptr (p k) = iptr (if k = n then b else p k)
    rw [if_neg (by omega)]
  · simp
theorem ptrs_take (p : Nat → Nat) {n m : Nat} (h : m ≤ n) : (ptrs p n).take m = ptrs p m := by
  apply List.ext_getElem?
  intro j
  by_cases hj : j < m
  · rw [List.getElem?_take_of_lt hj, ptrs_at _ (by omega), ptrs_at _ hj]
  · rw [List.getElem?_eq_none (by rw [List.length_take, ptrs_len]; omega), List.getElem?_eq_none (by rw [ptrs_len]; omega)]
/-- A queue in block g, its items' row in a block from B on. -/
structure Que (W : World) (B g : Nat) (fr fc : FuncId) (way : Int) (v : Value) (n : Nat) (p : Nat → Nat) : Prop where
  blk : Blk W g #[fval fr, fval fc, .int .i64 way, v] 83
  row : W.ownsRow B 84 1 v n (ptrs p n)
  ne : v.ownBlock ≠ some g
section
variable {W W' : World} {B g n : Nat} {fr fc : FuncId} {way : Int} {v : Value} {p : Nat → Nat}
theorem row_below {t : TypeId} {xs : List Value} (h : W.ownsRow B t 1 v n xs) (hb : Below W.heap.size W W') : W'.ownsRow B t 1 v n xs := by
  refine ⟨h.1, ?_⟩
  rcases h.2 with h0 | ⟨q, cap, cur, rfl, hB, hg, rest⟩
  · exact .inl h0
  · exact .inr ⟨q, cap, cur, rfl, hB, (hb.block q (Array.getElem?_eq_some_iff.1 hg).1).trans hg, rest⟩
theorem Que.below (h : Que W B g fr fc way v n p) (hb : Below W.heap.size W W') : Que W' B g fr fc way v n p :=
  ⟨h.blk.below hb h.blk.lt, row_below h.row hb, h.ne⟩
theorem Que.forms (h : Que W B g fr fc way v n p) : (v = .slice none 0 0 ∧ n = 0) ∨ ∃ q cap, v = .slice (some ⟨q, 0, none⟩) n cap ∧ q ≠ g ∧ B ≤ q ∧ q < W.heap.size ∧ n ≤ cap ∧ cap ≤ maxLen := by
  rcases h.row.2 with ⟨h1, h0⟩ | ⟨q, cap, cur, rfl, hb, hg, h1, h2, _⟩
  · exact .inl ⟨h1, h0⟩
  · exact .inr ⟨q, cap, rfl, fun e => h.ne (by rw [e]; rfl), hb, (Array.getElem?_eq_some_iff.1 hg).1, h1, h2⟩
theorem Que.slice (h : Que W B g fr fc way v n p) : ∃ A cap, v = .slice A n cap ∧ n ≤ cap ∧ cap ≤ maxLen := by
  rcases h.forms with ⟨rfl, rfl⟩ | ⟨q, cap, rfl, _, _, _, h1, h2⟩
  · exact ⟨none, 0, rfl, Nat.le_refl _, Nat.zero_le _⟩
  · exact ⟨_, cap, rfl, h1, h2⟩
/-- The row, where there is an item. -/
theorem Que.full (h : Que W B g fr fc way v n p) (hn : 0 < n) : ∃ q cap, v = .slice (some ⟨q, 0, none⟩) n cap ∧ q ≠ g ∧ B ≤ q ∧ q < W.heap.size ∧ n ≤ cap ∧ cap ≤ maxLen ∧ (∀ k, k < n → W.cell? ⟨q, k, none⟩ = some (iptr (p k))) ∧ (∀ k, W.frozen? ⟨q, k, none⟩ = false) := by
  rcases h.forms with ⟨_, h0⟩ | ⟨q, cap, rfl, h1, h2, h3, h4, h5⟩
  · omega
  · exact ⟨q, cap, rfl, h1, h2, h3, h4, h5, fun k hk => by rw [World.ownsRow.cellAt h.row k (by omega)]; exact ptrs_at p hk, fun k => World.ownsRow.frozenAt h.row k⟩
theorem Blk.four {a b c d : Value} {t : TypeId} (h : Blk W g #[a, b, c, d] t) : (W.cell? ⟨g, 0, none⟩ = some a ∧ W.cell? ⟨g, 1, none⟩ = some b ∧ W.cell? ⟨g, 2, none⟩ = some c ∧ W.cell? ⟨g, 3, none⟩ = some d) ∧ W.frozen? ⟨g, 3, none⟩ = false :=
  ⟨⟨h.cell 0, h.cell 1, h.cell 2, h.cell 3⟩, h.fro 3⟩
end
/-- A block of another type is not the items' row. -/
theorem Que.apart {W : World} {B g n b : Nat} {fr fc : FuncId} {way : Int} {v : Value} {p : Nat → Nat} {cs : Array Value} {t : TypeId} (h : Que W B g fr fc way v n p) (hb : Blk W b cs t) (ht : t ≠ 84) : some b ≠ v.ownBlock := by
  rcases h.row.2 with ⟨rfl, _⟩ | ⟨q, cap, cur, rfl, _, hg, _⟩
  · intro e; cases e
  · intro e
    have e2 : b = q := by
      have : some b = some q := e
      injection this
    subst e2
    rw [hb.row] at hg
    injection hg with hg
    injection hg with _ hg
    exact ht hg
/-- Two places change what they hold. -/
def swq (f : Nat → Nat) (i j : Nat) : Nat → Nat := fun k => if k = i then f j else if k = j then f i else f k
theorem srt_drewN {B : Nat} {a w : World} (h : Below B a w) (n : Nat) : Below B a (w.drewN n) := ⟨h.os, h.tape, h.output, h.size, h.block⟩
theorem qLen_any {W : World} {B g n : Nat} {fr fc : FuncId} {way : Int} {v : Value} {p : Nat → Nat} (h : Que W B g fr fc way v n p) :
    Calls Tryz.prog 33 #[iptr g] W fun e w' => e = .returned (.int .i64 n) ∧ W = w' := by
  obtain ⟨A, cap, rfl, hn, hc⟩ := h.slice
  obtain ⟨⟨_, _, _, c3⟩, _⟩ := h.blk.four
  unfold maxLen at hc
  clear h
  go_enter Tryz.func33, Tryz.ntmps33
  go_wp2
  go_ret
  exact ⟨rfl, rfl⟩
/-- Does an item come out ahead of another: by the order, then by the places in the list. -/
def lessB (r x y : Int) : Bool := if r = 0 then decide (x < y) else decide (r < 0)
set_option maxRecDepth 100000 in
set_option maxHeartbeats 2000000 in
theorem qLess_any {W : World} {B g n : Nat} {fr fc : FuncId} {way : Int} {v : Value} {p : Nat → Nat} (h : Que W B g fr fc way v n p) (i j : Nat) (hi : i < n) (hj : j < n) {x y c r : Int}
    (hx : W.cell? ⟨p i, 0, none⟩ = some (.int .i64 x)) (hy : W.cell? ⟨p j, 0, none⟩ = some (.int .i64 y)) (hr : IntKind.i64.wrap (c * way) = r)
    (eg : ∀ (args : Array Value) (w : World), (callFunc fc args).run Tryz.prog w = .ok (.enter fc args) w) (hC : ∀ W', Below W.heap.size W W' → Calls Tryz.prog fc #[iptr (p i), iptr (p j)] W' fun e w' => e = .returned (.int .i64 c) ∧ Below W'.heap.size W' w') :
    Calls Tryz.prog 266 #[iptr g, .int .i64 (i : Int), .int .i64 (j : Int)] W fun e w' => e = .returned (.bool (lessB r x y)) ∧ Below W.heap.size W w' := by
  obtain ⟨q, cap, rfl, hqg, hBq, hql, hn, hc, hcell, -⟩ := h.full (by omega)
  have ci := hcell i hi
  have cj := hcell j hj
  obtain ⟨⟨_, c1, c2, c3⟩, _⟩ := h.blk.four
  unfold maxLen at hc
  have hi1 : (i : Int) < (n : Int) := by omega
  have hj1 : (j : Int) < (n : Int) := by omega
  have hi0 : (0 : Int) ≤ (i : Int) := by omega
  have hj0 : (0 : Int) ≤ (j : Int) := by omega
  have CC := Lib.hid hC
  have HC2 := Lib.hid (fun (W' : World) (hb : Below W.heap.size W W') => (show W'.cell? ⟨g, 1, none⟩ = some (fval fc) ∧ W'.cell? ⟨g, 2, none⟩ = some (.int .i64 way) from ⟨(h.blk.below hb h.blk.lt).cell 1, (h.blk.below hb h.blk.lt).cell 2⟩))
  have HXY := Lib.hid (fun (W' : World) (hb : Below W.heap.size W W') => (show W'.cell? ⟨p i, 0, none⟩ = some (.int .i64 x) ∧ W'.cell? ⟨p j, 0, none⟩ = some (.int .i64 y) from ⟨(hb.cell (World.block_lt_of_cell? W _ hx)).trans hx, (hb.cell (World.block_lt_of_cell? W _ hy)).trans hy⟩))
  obtain ⟨a, ha⟩ : ∃ a, p i = a := ⟨_, rfl⟩
  obtain ⟨b, hb⟩ : ∃ b, p j = b := ⟨_, rfl⟩
  rw [ha] at ci CC HXY
  rw [hb] at cj CC HXY
  have hR := Below.refl W.heap.size W
  clear h hC hcell hx hy ha hb
  go_enter Tryz.func266, Tryz.ntmps266
  go_wp2_with fail
  go_quiet (fail)
  go_wp2_with fail
  go_region_held3 (fun w' => w'.cell? ⟨g, 1, none⟩ = some (fval fc) ∧ w'.cell? ⟨g, 2, none⟩ = some (.int .i64 way))
    (first | (with_reducible exact S2) | (with_reducible exact S1) | go_keep)
    (first | ((with_reducible refine (CC.out _ (by first | exact hR | exact hR.drew | exact srt_drewN hR _)).mono ?_); rintro e W4 ⟨rfl, h4⟩; have b4 : Below W.heap.size W W4 := ⟨h4.os, h4.tape, h4.output, h4.size, h4.block⟩; have S2 := HC2.out _ b4; clear h4))
  all_goals
    obtain ⟨x4, y4⟩ := HXY.out _ b4
    clear S2 ci cj c1 c2 c3 hr CC HC2 HXY
    by_cases h0 : r = 0
    · have e1 : (r != 0) = false := by rw [h0]; rfl
      have e2 : lessB r x y = decide (x < y) := if_pos h0
      have E2 := Lib.hid e2
      clear h0 e2
      go_wp2_with fail
      go_quiet (fail)
      go_wp2_with fail
      go_ret
      exact ⟨by rw [E2.out]; rfl, by first | exact b4 | exact srt_drewN b4 _⟩
    · have e1 : (r != 0) = true := by rw [bne_iff_ne]; exact h0
      have e2 : lessB r x y = decide (r < 0) := if_neg h0
      have E2 := Lib.hid e2
      clear h0 e2
      go_wp2_with fail
      go_ret
      exact ⟨by rw [E2.out]; rfl, by first | exact b4 | exact srt_drewN b4 _⟩
theorem ptrs_swap (p : Nat → Nat) (n i j : Nat) : ((ptrs p n).set i (iptr (p j))).set j (iptr (p i)) = ptrs (swq p i j) n := by
  rw [ptrs_set, ptrs_set]
  apply ptrs_congr
  intro k _
  unfold swq
  by_cases h1 : k = j
  · by_cases h2 : k = i
    · rw [if_pos h1, if_pos h2, ← h1, ← h2]
    · rw [if_pos h1, if_neg h2, if_pos h1]
  · rw [if_neg h1]
    by_cases h2 : k = i
    · rw [if_pos h2, if_pos h2]
    · rw [if_neg h2, if_neg h2, if_neg h1]
theorem srt_grown_set (W : World) (q j : Nat) (u : Value) : W.grownBy (W.setCell ⟨q, j, none⟩ u) (some q) := by
  have b := (Below.refl 0 W).setCell (p := ⟨q, j, none⟩) (Nat.zero_le _) u
  exact ⟨b.os, b.tape, b.output, b.size, fun i _ h => Below.heap_setCell W ⟨q, j, none⟩ u i (fun e => h (by rw [e]))⟩
set_option maxRecDepth 100000 in
set_option maxHeartbeats 4000000 in
theorem qSwap_any {W : World} {B g n : Nat} {fr fc : FuncId} {way : Int} {v : Value} {p : Nat → Nat} (h : Que W B g fr fc way v n p) (i j : Nat) (hi : i < n) (hj : j < n) :
    Calls Tryz.prog 269 #[iptr g, .int .i64 (i : Int), .int .i64 (j : Int)] W fun e w' => e = .returned (.tuple #[]) ∧ Que w' B g fr fc way v n (swq p i j) ∧ W.grownBy w' v.ownBlock := by
  obtain ⟨q, cap, rfl, hqg, hBq, hql, hn, hc, hcell, hfro⟩ := h.full (by omega)
  have ci := hcell i hi
  have cj := hcell j hj
  have fi := hfro i
  have fj := hfro j
  obtain ⟨⟨_, _, _, c3⟩, _⟩ := h.blk.four
  unfold maxLen at hc
  have hi1 : (i : Int) < (n : Int) := by omega
  have hj1 : (j : Int) < (n : Int) := by omega
  have hi0 : (0 : Int) ≤ (i : Int) := by omega
  have hj0 : (0 : Int) ≤ (j : Int) := by omega
  have H := Lib.hid h
  obtain ⟨a, ha⟩ : ∃ a, p i = a := ⟨_, rfl⟩
  obtain ⟨b, hb⟩ : ∃ b, p j = b := ⟨_, rfl⟩
  rw [ha] at ci
  rw [hb] at cj
  have HA := Lib.hid ha
  have HB := Lib.hid hb
  obtain ⟨cj2, hcj2⟩ := cell?_setCell_some (w := W) (p := ⟨q, i, none⟩) (x := .pointer (some ⟨b, 0, none⟩)) (q := ⟨q, j, none⟩) (v := iptr b) cj
  clear h hcell hfro ha hb
  go_enter Tryz.func269, Tryz.ntmps269
  go_wp2_with fail
  go_region
  all_goals
    go_end0
    have r1 := (World.ownsRow.stored H.out.row i (iptr b)).1
    have r2 := (World.ownsRow.stored r1 j (iptr a)).1
    rw [← HA.out, ← HB.out, ptrs_swap] at r2
    have g1 := srt_grown_set W q i (iptr b)
    have g2 := g1.trans (srt_grown_set (W.setCell ⟨q, i, none⟩ (iptr b)) q j (iptr a))
    have k1 := (H.out.blk.other (j := i) (u := iptr b) hqg.symm).other (j := j) (u := iptr a) hqg.symm
    rw [← HA.out, ← HB.out] at k1 g2
    rw [← HA.out, ← HB.out]
    exact ⟨rfl, ⟨⟨k1.row⟩, r2, H.out.ne⟩, ⟨g2.os, g2.tape, g2.output, g2.size, g2.block⟩⟩
end Go.Proofs.YtdliiohjbnlieaaGreatDoor

namespace Go.Proofs.YtdliiohjbnlieaaGreatDoor
open Go.RowKit Go.Lib

/-- What an entry is. -/
structure Dat where
  key : ByteArray
  kind : Int
  num : Nat
  str : ByteArray
  sub : Bool
def itC (a : Nat) (d : Dat) : Array Value := #[.int .i64 (a : Int), .string d.key, .int .i64 d.kind, .float .f64 d.num, .string d.str, .bool d.sub]
/-- Item number a lies in block ib a. -/
abbrev Itm (W : World) (ib : Nat → Nat) (d : Nat → Dat) (a : Nat) : Prop := Blk W (ib a) (itC a (d a)) 86
theorem Itm.at {W : World} {ib : Nat → Nat} {d : Nat → Dat} {a : Nat} (h : Itm W ib d a) : W.cell? ⟨ib a, 0, none⟩ = some (.int .i64 (a : Int)) := h.cell 0
/-- A queue of the items below N: f tells which of them stands at a place. -/
structure Stt (W : World) (w0 wz : World) (B g : Nat) (fr fc : FuncId) (way : Int) (v : Value) (n N : Nat) (f ib : Nat → Nat) (d : Nat → Dat) : Prop where
  que : Que W B g fr fc way v n (fun k => ib (f k))
  its : ∀ a, a < N → Itm W ib d a
  bel : Below B w0 W
  lim : B ≤ W.heap.size
  old : B ≤ g
  kept : ∀ b cs t, t ≠ 83 → t ≠ 84 → t ≠ 86 → Blk wz b cs t → Blk W b cs t
section
variable {W W' w0 wz : World} {B g n N : Nat} {fr fc : FuncId} {way : Int} {v : Value} {f ib : Nat → Nat} {d : Nat → Dat}
theorem Stt.below (h : Stt W w0 wz B g fr fc way v n N f ib d) (hb : Below W.heap.size W W') : Stt W' w0 wz B g fr fc way v n N f ib d :=
  ⟨h.que.below hb, fun a ha => (h.its a ha).below hb (h.its a ha).lt, h.bel.trans (hb.mono h.lim), Nat.le_trans h.lim hb.size, h.old, fun b cs t h1 h2 h3 k => (h.kept b cs t h1 h2 h3 k).below hb (h.kept b cs t h1 h2 h3 k).lt⟩
theorem Stt.row (h : Stt W w0 wz B g fr fc way v n N f ib d) : ∀ k, v.ownBlock = some k → B ≤ k := fun k hk => (World.ownsRow.lt h.que.row k hk).1
theorem Stt.grown (h : Stt W w0 wz B g fr fc way v n N f ib d) (hg : W.grownBy W' v.ownBlock) {v' : Value} {m : Nat} {f' : Nat → Nat} (hq : Que W' B g fr fc way v' m (fun k => ib (f' k))) : Stt W' w0 wz B g fr fc way v' m N f' ib d :=
  ⟨hq, fun a ha => (h.its a ha).grown hg (h.que.apart (h.its a ha) (by decide)), h.bel.grown hg h.lim h.row, Nat.le_trans h.lim hg.size, h.old, fun b cs t h1 h2 h3 k => (h.kept b cs t h1 h2 h3 k).grown hg (h.que.apart (h.kept b cs t h1 h2 h3 k) h2)⟩
theorem Stt.base (h : Stt W w0 wz B g fr fc way v n N f ib d) : Stt W w0 W B g fr fc way v n N f ib d := ⟨h.que, h.its, h.bel, h.lim, h.old, fun _ _ _ _ _ _ k => k⟩
theorem Stt.swap (h : Stt W w0 wz B g fr fc way v n N f ib d) {i j : Nat} (hq : Que W' B g fr fc way v n (swq (fun k => ib (f k)) i j)) (hg : W.grownBy W' v.ownBlock) : Stt W' w0 wz B g fr fc way v n N (swp f i j) ib d := by
  refine h.grown hg ?_
  have e : (fun k => ib (swp f i j k)) = swq (fun k => ib (f k)) i j := by
    funext k
    unfold swp swq
    split
    · rfl
    · split <;> rfl
  rw [e]
  exact hq
end
/-- What the order's comparison answers of two items, whatever has turned since. -/
def Compares (w0 : World) (B : Nat) (fc : FuncId) (N : Nat) (ib : Nat → Nat) (d : Nat → Dat) (cv : Nat → Nat → Int) : Prop :=
  ∀ W a b, a < N → b < N → Below B w0 W → Itm W ib d a → Itm W ib d b → Calls Tryz.prog fc #[iptr (ib a), iptr (ib b)] W fun e w' => e = .returned (.int .i64 (cv a b)) ∧ Below W.heap.size W w'
/-- A function that is entered when it is called. -/
abbrev Enters (fc : FuncId) : Prop := ∀ (args : Array Value) (w : World), (callFunc fc args).run Tryz.prog w = .ok (.enter fc args) w
def ltV (cv : Nat → Nat → Int) (way : Int) (a b : Nat) : Bool := lessB (IntKind.i64.wrap (cv a b * way)) (a : Int) (b : Int)
theorem sLess_any {W w0 wz : World} {B g n N : Nat} {fr fc : FuncId} {way : Int} {v : Value} {f ib : Nat → Nat} {d : Nat → Dat} {cv : Nat → Nat → Int} (h : Stt W w0 wz B g fr fc way v n N f ib d) (eg : Enters fc) (hC : Compares w0 B fc N ib d cv) (i j : Nat) (hi : i < n) (hj : j < n) (fi : f i < N) (fj : f j < N) :
    Calls Tryz.prog 266 #[iptr g, .int .i64 (i : Int), .int .i64 (j : Int)] W fun e w' => e = .returned (.bool (ltV cv way (f i) (f j))) ∧ Below W.heap.size W w' :=
  qLess_any h.que i j hi hj (h.its _ fi).at (h.its _ fj).at rfl eg (fun W' hb => hC W' _ _ fi fj (h.bel.trans (hb.mono h.lim)) ((h.its _ fi).below hb (h.its _ fi).lt) ((h.its _ fj).below hb (h.its _ fj).lt))
abbrev hif (g : Nat) : Value := .iface 88 (iptr g)
theorem m_less (g : Nat) (w : World) : (method 416 88 (iptr g) "Less").run Tryz.prog w = .ok (266, iptr g) w := by kernel_rfl
theorem m_swap (g : Nat) (w : World) : (method 416 88 (iptr g) "Swap").run Tryz.prog w = .ok (269, iptr g) w := by kernel_rfl
theorem m_len (g : Nat) (w : World) : (method 416 88 (iptr g) "Len").run Tryz.prog w = .ok (33, iptr g) w := by kernel_rfl
theorem m_push (g : Nat) (w : World) : (method 416 88 (iptr g) "Push").run Tryz.prog w = .ok (268, iptr g) w := by kernel_rfl
theorem m_pop (g : Nat) (w : World) : (method 416 88 (iptr g) "Pop").run Tryz.prog w = .ok (267, iptr g) w := by kernel_rfl
/-- A heap in a queue. -/
def HeapEnd (w0 wz : World) (B g : Nat) (fr fc : FuncId) (way : Int) (v : Value) (n N : Nat) (ib : Nat → Nat) (d : Nat → Dat) (lt : Nat → Nat → Bool) (S : Nat → Prop) (W : World) : Prop :=
  ∃ f, Stt W w0 wz B g fr fc way v n N f ib d ∧ Heap lt f n ∧ Hold f n S
set_option maxRecDepth 100000 in
set_option maxHeartbeats 4000000 in
theorem up_any {W w0 wz : World} {B g n N j : Nat} {fr fc : FuncId} {way : Int} {v : Value} {f ib : Nat → Nat} {d : Nat → Dat} {cv : Nat → Nat → Int} {S : Nat → Prop} (o : Ord (ltV cv way)) (eg : Enters fc) (hC : Compares w0 B fc N ib d cv) (hS : ∀ a, S a → a < N) (hn : n ≤ 1000000)
    (h : Stt W w0 wz B g fr fc way v n N f ib d) (hU : UpH (ltV cv way) f n j) (hH : Hold f n S) (hj : j < n) :
    Calls Tryz.prog 50 #[hif g, .int .i64 (j : Int)] W fun e w' => (∃ r, e = .returned r) ∧ HeapEnd w0 wz B g fr fc way v n N ib d (ltV cv way) S w' := by
  have hl := fun w => m_less g w
  have hs := fun w => m_swap g w
  have HC := Lib.hid hC
  have HO := Lib.hid o
  have HS := Lib.hid hS
  have HEG := Lib.hid eg
  clear eg
  go_enter Tryz.func50, Tryz.ntmps50
  go_wp2
  go_loopw [1] (fun jv wr => ∃ j f, jv = .int .i64 ((j : Nat) : Int) ∧ j < n ∧ Stt wr w0 wz B g fr fc way v n N f ib d ∧ UpH (ltV cv way) f n j ∧ Hold f n S) (fun jv _ => (RowKit.intOf jv).toNat)
  case atStart => exact ⟨j, f, rfl, hj, h, hU, hH⟩
  case round =>
    clear h hU hH hC o hj hS
    obtain ⟨j, f, rfl, hj, h, hU, hH⟩ := hrel
    have HST := Lib.hid h
    have HU := Lib.hid hU
    have HH := Lib.hid hH
    clear h hU hH
    by_cases h0 : j = 0
    · subst h0
      go_wp2_with fail
      go_end0
      exact ⟨⟨_, rfl⟩, f, HST.out, HU.out.done (Or.inl rfl), HH.out⟩
    · obtain ⟨i, hi⟩ : ∃ i, (j - 1) / 2 = i := ⟨_, rfl⟩
      have e1 : ((j : Int) - 1) / 2 = (i : Int) := by omega
      have hij : i < j := by omega
      have hne : ((i : Int) == (j : Int)) = false := by rw [beq_eq_false_iff_ne]; omega
      have HI := Lib.hid hi
      have fi : f i < N := HS.out _ ((HH.out.on _).2 ⟨i, by omega, rfl⟩)
      have fj : f j < N := HS.out _ ((HH.out.on _).2 ⟨j, hj, rfl⟩)
      have CL := Lib.hid (sLess_any HST.out HEG.out HC.out j i hj (by omega) fj fi)
      obtain ⟨b, hb⟩ : ∃ b, ltV cv way (f j) (f i) = b := ⟨_, rfl⟩
      rw [hb] at CL
      have HLB := Lib.hid hb
      clear hi hb
      go_wp2_with fail
      refine CL.out.mono ?_
      rintro e W2 ⟨rfl, h2⟩
      have HS2 := Lib.hid (HST.out.below h2)
      clear h2 HST CL
      cases b with
      | false =>
        go_wp2_with fail
        go_end0
        exact ⟨⟨_, rfl⟩, f, HS2.out, HU.out.done (Or.inr (by rw [HI.out]; exact HLB.out)), HH.out⟩
      | true =>
        have CS := Lib.hid (qSwap_any HS2.out.que i j (by omega) hj)
        go_wp2_with fail
        refine CS.out.mono ?_
        rintro e W3 ⟨rfl, hq, hg⟩
        have HS3 := Lib.hid (HS2.out.swap hq hg)
        clear hq hg HS2 CS
        go_wp2_with fail
        go_roundw
        case rel => exact ⟨i, swp f i j, by go_num, by omega, HS3.out, UpH.step HO.out HU.out (by omega) hj HI.out HLB.out, HH.out.swp (by omega) hj⟩
        case measure => simp [RowKit.intOf]; omega
/-- A heap below a place that stays. -/
def DownEnd (w0 wz : World) (B g : Nat) (fr fc : FuncId) (way : Int) (v : Value) (n N m x : Nat) (ib : Nat → Nat) (d : Nat → Dat) (lt : Nat → Nat → Bool) (S : Nat → Prop) (W : World) : Prop :=
  ∃ f, Stt W w0 wz B g fr fc way v n N f ib d ∧ Heap lt f m ∧ Hold f m S ∧ f m = x
set_option maxRecDepth 100000 in
set_option maxHeartbeats 8000000 in
theorem down_any {W w0 wz : World} {B g n N m x : Nat} {fr fc : FuncId} {way : Int} {v : Value} {f ib : Nat → Nat} {d : Nat → Dat} {cv : Nat → Nat → Int} {S : Nat → Prop} (o : Ord (ltV cv way)) (eg : Enters fc) (hC : Compares w0 B fc N ib d cv) (hS : ∀ a, S a → a < N) (hn : n ≤ 1000000) (hm : m ≤ n)
    (h : Stt W w0 wz B g fr fc way v n N f ib d) (hU : DownH (ltV cv way) f m 0) (hH : Hold f m S) (hx : f m = x) :
    Calls Tryz.prog 51 #[hif g, .int .i64 0, .int .i64 (m : Int)] W fun e w' => (∃ r, e = .returned r) ∧ DownEnd w0 wz B g fr fc way v n N m x ib d (ltV cv way) S w' := by
  have hl := fun w => m_less g w
  have hs := fun w => m_swap g w
  have HC := Lib.hid hC
  have HO := Lib.hid o
  have HS := Lib.hid hS
  have HEG := Lib.hid eg
  clear eg
  go_enter Tryz.func51, Tryz.ntmps51
  go_wp2
  go_loopw [7] (fun iv wr => ∃ i f, iv = .int .i64 ((i : Nat) : Int) ∧ (i < m ∨ i = 0) ∧ Stt wr w0 wz B g fr fc way v n N f ib d ∧ DownH (ltV cv way) f m i ∧ Hold f m S ∧ f m = x) (fun iv _ => n - (RowKit.intOf iv).toNat)
  case atStart => exact ⟨0, f, rfl, Or.inr rfl, h, hU, hH, hx⟩
  case round =>
    clear h hU hH hC o hS hx
    obtain ⟨i, f, rfl, hi, h, hU, hH, hx⟩ := hrel
    have hin : i ≤ n := by omega
    have HII := Lib.hid hi
    have HST := Lib.hid h
    have HU := Lib.hid hU
    have HH := Lib.hid hH
    have HX := Lib.hid hx
    clear h hU hH hi hx
    by_cases h1 : m ≤ 2 * i + 1
    · have k1 : (m : Int) ≤ 2 * (i : Int) + 1 := by omega
      go_wp2_with fail
      go_ret
      exact ⟨⟨_, rfl⟩, f, HST.out, HU.out.done (fun k k0 k1 k2 => by omega), HH.out, HX.out⟩
    · have k1 : ¬ (m : Int) ≤ 2 * (i : Int) + 1 := by omega
      have fm : ∀ k, k < m → f k < N := fun k hk => HS.out _ ((HH.out.on _).2 ⟨k, hk, rfl⟩)
      have FM := Lib.hid fm
      clear fm
      obtain ⟨j1, hj1⟩ : ∃ j1, 2 * i + 1 = j1 := ⟨_, rfl⟩
      have q1 : 2 * (i : Int) + 1 = (j1 : Int) := by omega
      have hjm : j1 < m := by omega
      have hj1a : (j1 - 1) / 2 = i ∧ 0 < j1 ∧ i < j1 := by omega
      by_cases h2 : j1 + 1 < m
      · have k2 : (j1 : Int) + 1 < (m : Int) := by omega
        obtain ⟨j2, hj2⟩ : ∃ j2, j1 + 1 = j2 := ⟨_, rfl⟩
        have q2 : (j1 : Int) + 1 = (j2 : Int) := by omega
        have hj2m : j2 < m := by omega
        have hj2a : (j2 - 1) / 2 = i ∧ 0 < j2 ∧ i < j2 := by omega
        have CL := Lib.hid (sLess_any HST.out HEG.out HC.out j2 j1 (by omega) (by omega) (FM.out _ hj2m) (FM.out _ hjm))
        obtain ⟨b, hb⟩ : ∃ b, ltV cv way (f j2) (f j1) = b := ⟨_, rfl⟩
        rw [hb] at CL
        have HLB := Lib.hid hb
        clear hb
        go_wp2_with fail
        refine CL.out.mono ?_
        rintro e W2 ⟨rfl, h2⟩
        have HS2 := Lib.hid (HST.out.below h2)
        clear h2 HST CL
        cases b with
        | true =>
          have hs : ∀ k, 0 < k → k < m → (k - 1) / 2 = i → ltV cv way (f k) (f j2) = false := fun k k0 k1 k2 => by
            rcases (by omega : k = j1 ∨ k = j2) with rfl | rfl
            · exact HO.out.asym _ _ HLB.out
            · exact HO.out.irr _
          have HSS := Lib.hid hs
          clear hs
          have CL2 := Lib.hid (sLess_any HS2.out HEG.out HC.out j2 i (by omega) (by omega) (FM.out _ (by omega)) (FM.out _ (by omega)))
          obtain ⟨b2, hb2⟩ : ∃ b, ltV cv way (f j2) (f i) = b := ⟨_, rfl⟩
          rw [hb2] at CL2
          have HLB2 := Lib.hid hb2
          clear hb2
          go_wp2_with fail
          refine CL2.out.mono ?_
          rintro e W3 ⟨rfl, h3⟩
          have HS3 := Lib.hid (HS2.out.below h3)
          clear h3 CL2
          cases b2 with
          | false =>
            go_wp2_with fail
            go_ret
            exact ⟨⟨_, rfl⟩, f, HS3.out, HU.out.done (fun k k0 k1 k2 => HO.out.ntrans (HSS.out k k0 k1 k2) HLB2.out), HH.out, HX.out⟩
          | true =>
            have CS := Lib.hid (qSwap_any HS3.out.que i j2 (by omega) (by omega))
            go_wp2_with fail
            refine CS.out.mono ?_
            rintro e W4 ⟨rfl, hq, hg⟩
            have HS4 := Lib.hid (HS3.out.swap hq hg)
            clear hq hg HS3 CS
            go_wp2_with fail
            go_roundw
            case rel => exact ⟨j2, swp f i j2, by go_num, Or.inl (by omega), HS4.out, DownH.step HO.out HU.out (by omega) (by omega) (by omega) HSS.out HLB2.out, HH.out.swp (by omega) (by omega), by rw [swp_o _ (by omega) (by omega)]; exact HX.out⟩
            case measure => simp [RowKit.intOf]; omega
        | false =>
          have hs : ∀ k, 0 < k → k < m → (k - 1) / 2 = i → ltV cv way (f k) (f j1) = false := fun k k0 k1 k2 => by
            rcases (by omega : k = j1 ∨ k = j2) with rfl | rfl
            · exact HO.out.irr _
            · exact HLB.out
          have HSS := Lib.hid hs
          clear hs
          have CL2 := Lib.hid (sLess_any HS2.out HEG.out HC.out j1 i (by omega) (by omega) (FM.out _ (by omega)) (FM.out _ (by omega)))
          obtain ⟨b2, hb2⟩ : ∃ b, ltV cv way (f j1) (f i) = b := ⟨_, rfl⟩
          rw [hb2] at CL2
          have HLB2 := Lib.hid hb2
          clear hb2
          go_wp2_with fail
          refine CL2.out.mono ?_
          rintro e W3 ⟨rfl, h3⟩
          have HS3 := Lib.hid (HS2.out.below h3)
          clear h3 CL2
          cases b2 with
          | false =>
            go_wp2_with fail
            go_ret
            exact ⟨⟨_, rfl⟩, f, HS3.out, HU.out.done (fun k k0 k1 k2 => HO.out.ntrans (HSS.out k k0 k1 k2) HLB2.out), HH.out, HX.out⟩
          | true =>
            have CS := Lib.hid (qSwap_any HS3.out.que i j1 (by omega) (by omega))
            go_wp2_with fail
            refine CS.out.mono ?_
            rintro e W4 ⟨rfl, hq, hg⟩
            have HS4 := Lib.hid (HS3.out.swap hq hg)
            clear hq hg HS3 CS
            go_wp2_with fail
            go_roundw
            case rel => exact ⟨j1, swp f i j1, by go_num, Or.inl (by omega), HS4.out, DownH.step HO.out HU.out (by omega) (by omega) (by omega) HSS.out HLB2.out, HH.out.swp (by omega) (by omega), by rw [swp_o _ (by omega) (by omega)]; exact HX.out⟩
            case measure => simp [RowKit.intOf]; omega
      · have k2 : ¬ (j1 : Int) + 1 < (m : Int) := by omega
        have hs : ∀ k, 0 < k → k < m → (k - 1) / 2 = i → ltV cv way (f k) (f j1) = false := fun k k0 k1 k2 => by
          obtain rfl : k = j1 := by omega
          exact HO.out.irr _
        have HSS := Lib.hid hs
        clear hs
        have CL2 := Lib.hid (sLess_any HST.out HEG.out HC.out j1 i (by omega) (by omega) (FM.out _ (by omega)) (FM.out _ (by omega)))
        obtain ⟨b2, hb2⟩ : ∃ b, ltV cv way (f j1) (f i) = b := ⟨_, rfl⟩
        rw [hb2] at CL2
        have HLB2 := Lib.hid hb2
        clear hb2
        go_wp2_with fail
        refine CL2.out.mono ?_
        rintro e W3 ⟨rfl, h3⟩
        have HS3 := Lib.hid (HST.out.below h3)
        clear h3 CL2
        cases b2 with
        | false =>
          go_wp2_with fail
          go_ret
          exact ⟨⟨_, rfl⟩, f, HS3.out, HU.out.done (fun k k0 k1 k2 => HO.out.ntrans (HSS.out k k0 k1 k2) HLB2.out), HH.out, HX.out⟩
        | true =>
          have CS := Lib.hid (qSwap_any HS3.out.que i j1 (by omega) (by omega))
          go_wp2_with fail
          refine CS.out.mono ?_
          rintro e W4 ⟨rfl, hq, hg⟩
          have HS4 := Lib.hid (HS3.out.swap hq hg)
          clear hq hg HS3 CS
          go_wp2_with fail
          go_roundw
          case rel => exact ⟨j1, swp f i j1, by go_num, Or.inl (by omega), HS4.out, DownH.step HO.out HU.out (by omega) (by omega) (by omega) HSS.out HLB2.out, HH.out.swp (by omega) (by omega), by rw [swp_o _ (by omega) (by omega)]; exact HX.out⟩
          case measure => simp [RowKit.intOf]; omega
end Go.Proofs.YtdliiohjbnlieaaGreatDoor

namespace Go.Proofs.YtdliiohjbnlieaaGreatDoor
open Go.RowKit Go.Lib

/-- 'append' as a step of a region that draws, by a known run. -/
theorem step_append_val {P : Program} {ops : Array Oper} {o : Oper} {a : Act} {w : World} {K : Act → World → Prop} {Q : Exit → Act → World → Prop} {E : Prop}
    (hg : o.guard = none) (d x : Operand) (dT sT : TypeId) (hop : o.op = Op.call { callee := Callee.builtin Builtin.append, args := #[d, x], argTypes := #[dT, sT] })
    (v : Value) (hd : a.eval d = v) (t : Value) (hx : a.eval x = t) (v' : Value) (w' : World) (hrun : (Builtin.append_ #[dT, sT] o.type #[v, t]).run P w = .ok v' w')
    (hK : K (a.put o.dst v') w') : if Region.wanted o (yielded ops a.tmps) = true then Oper.wp P o a w K Q else E := by
  have hw : Region.wanted o (yielded ops a.tmps) = true := by simp [Region.wanted, hg]
  rw [if_pos hw]
  unfold Oper.wp
  simp [execOp, hop, resolve, invoke, builtin, hd, hx, hrun, Result.andThen]
  exact hK
theorem info_item : (Tryz.prog.info? 84).map (fun i => (i.zero, i.size, i.bytes)) = some (some (.pointer none), 1, 8) := by kernel_rfl
abbrev iif (b : Nat) : Value := .iface 84 (iptr b)
theorem ta_item (v : Value) (w : World) : (Instr.typeAssert (.iface 84 v) 20 84 false).run Tryz.prog w = .ok v w := by kernel_rfl
theorem ptrs_push (ib f : Nat → Nat) (n x : Nat) : ptrs (fun k => ib (f k)) n ++ [iptr (ib x)] = ptrs (fun k => ib (if k = n then x else f k)) (n + 1) := by
  rw [ptrs_snoc]
  apply ptrs_congr
  intro k _
  show (if k = n then ib x else ib (f k)) = ib (if k = n then x else f k)
  split <;> rfl
theorem Blk.ne {W : World} {b c : Nat} {cs ds : Array Value} {t u : TypeId} (h : Blk W b cs t) (k : Blk W c ds u) (ht : t ≠ u) : b ≠ c := by
  rintro rfl
  have := h.row.symm.trans k.row
  injection this with this
  injection this with _ this
  exact ht this
/-- The queue's slice set anew. -/
theorem Stt.put {W w0 wz : World} {B g n N : Nat} {fr fc : FuncId} {way : Int} {v0 v : Value} {f ib : Nat → Nat} {d : Nat → Dat} (hg : Blk W g #[fval fr, fval fc, .int .i64 way, v0] 83) (hr : W.ownsRow B 84 1 v n (ptrs (fun k => ib (f k)) n)) (hne : v.ownBlock ≠ some g)
    (hi : ∀ a, a < N → Itm W ib d a) (hb : Below B w0 W) (hl : B ≤ W.heap.size) (ho : B ≤ g) (hk : ∀ b cs t, t ≠ 83 → t ≠ 84 → t ≠ 86 → Blk wz b cs t → Blk W b cs t) : Stt (W.setCell ⟨g, 3, none⟩ v) w0 wz B g fr fc way v n N f ib d :=
  ⟨⟨hg.set (j := 3) (u := v), World.ownsRow.kept hr (srt_grown_set W g 3 v) (Or.inr hne), hne⟩, fun a ha => (hi a ha).other ((hi a ha).ne hg (by decide)), hb.setCell (p := ⟨g, 3, none⟩) ho v, by simpa [World.setCell] using hl, ho, fun b cs t h1 h2 h3 k => (hk b cs t h1 h2 h3 k).other ((hk b cs t h1 h2 h3 k).ne hg h1)⟩
set_option maxRecDepth 100000 in
set_option maxHeartbeats 4000000 in
theorem sPush_any {W w0 wz : World} {B g n N x : Nat} {fr fc : FuncId} {way : Int} {v : Value} {f ib : Nat → Nat} {d : Nat → Dat} (h : Stt W w0 wz B g fr fc way v n N f ib d) (hn : n ≤ 1000000) :
    Calls Tryz.prog 268 #[iptr g, iif (ib x)] W fun e w' => (∃ r, e = .returned r) ∧ ∃ v', Stt w' w0 wz B g fr fc way v' (n + 1) N (fun k => if k = n then x else f k) ib d := by
  obtain ⟨i0, hi, hz0, hz1, hz2⟩ := info_parts info_item
  have hlim := h.lim
  obtain ⟨v', w2, hr, hown2, hgrow, _, hloc⟩ := run_append_own_at (P := Tryz.prog) (W.drew.alloc (.cells #[iptr (ib x)] 84)) B 81 81 84 i0 (.pointer none) 1 8 Tryz.underlying81 hi hz0 hz1 hz2 rfl (by decide) v n (ptrs (fun k => ib (f k)) n) (h.que.row.drew.alloc _) ⟨W.heap.size, 0, none⟩ 1 1 [iptr (ib x)] rfl (cell_one_new _ _ _) (by simp [Value.oneCell']) (by unfold maxLen; omega) (by omega) (by simp; omega)
  have b1 : Below W.heap.size W (W.drew.alloc (.cells #[iptr (ib x)] 84)) := (Below.refl W.heap.size W).drew.alloc (by simp) _
  have s1 := h.below b1
  have g2 : Blk w2 g #[fval fr, fval fc, .int .i64 way, v] 83 := s1.que.blk.grown hgrow (s1.que.apart s1.que.blk (by decide))
  obtain ⟨⟨_, _, _, c3⟩, _⟩ := h.que.blk.four
  obtain ⟨⟨_, _, _, d3⟩, e3⟩ := g2.four
  rw [ptrs_push] at hown2
  have hgl := h.que.blk.lt
  have hne : v'.ownBlock ≠ some g := by
    rcases hloc with e | e
    · rw [e]; exact h.que.ne
    · rw [e]; intro k; simp at k; omega
  have hrow : ∀ k, v.ownBlock = some k → B ≤ k := h.row
  have it2 : ∀ a, a < N → Itm w2 ib d a := fun a ha => (s1.its a ha).grown hgrow (s1.que.apart (s1.its a ha) (by decide))
  have b2 : Below B w0 w2 := s1.bel.grown hgrow s1.lim hrow
  have l2 : B ≤ w2.heap.size := Nat.le_trans s1.lim hgrow.size
  have hta := fun w => ta_item (iptr (ib x)) w
  obtain ⟨q', cap', rfl⟩ : ∃ q' cap', v' = .slice (some ⟨q', 0, none⟩) (n + 1) cap' := by
    rcases hown2.2 with ⟨_, h0⟩ | ⟨q', cap', cur, e, _⟩
    · omega
    · exact ⟨q', cap', e⟩
  have HKP := Lib.hid (show ∀ b cs t, t ≠ 83 → t ≠ 84 → t ≠ 86 → Blk wz b cs t → Blk w2 b cs t from fun b cs t h1 h2 h3 k => (s1.kept b cs t h1 h2 h3 k).grown hgrow (s1.que.apart (s1.kept b cs t h1 h2 h3 k) h2))
  have HR := Lib.hid hr
  have HO := Lib.hid hown2
  have HG := Lib.hid g2
  have HI := Lib.hid it2
  have HB := Lib.hid b2
  have HOLD := Lib.hid h.old
  clear h s1 b1 hr hown2 hgrow hloc g2 it2 b2 hi hz0 hz1 hz2 hrow
  go_enter Tryz.func268, Tryz.ntmps268
  go_wp2_with fail
  go_region_law (refine step_append_val rfl (.tmp 8) (.tmp 11) 81 81 rfl v (by simp [Act.eval]) (.slice (some ⟨W.heap.size, 0, none⟩) 1 1) (by simp [Act.eval]) _ w2 HR.out ?_)
  all_goals
    go_end0
    exact ⟨⟨_, rfl⟩, _, Stt.put HG.out HO.out hne HI.out HB.out l2 HOLD.out HKP.out⟩
set_option maxRecDepth 100000 in
set_option maxHeartbeats 4000000 in
theorem sPop_any {W w0 wz : World} {B g m N : Nat} {fr fc : FuncId} {way : Int} {v : Value} {f ib : Nat → Nat} {d : Nat → Dat} (h : Stt W w0 wz B g fr fc way v (m + 1) N f ib d) (hn : m ≤ 1000000) :
    Calls Tryz.prog 267 #[iptr g] W fun e w' => e = .returned (iif (ib (f m))) ∧ ∃ v', Stt w' w0 wz B g fr fc way v' m N f ib d := by
  obtain ⟨q, cap, rfl, hqg, hBq, hql, hnc, hc, hcell, -⟩ := h.que.full (by omega)
  have cm := hcell m (by omega)
  obtain ⟨⟨_, _, _, c3⟩, e3⟩ := h.que.blk.four
  unfold maxLen at hc
  have hr2 : W.ownsRow B 84 1 (.slice (some ⟨q, 0, none⟩) m cap) m (ptrs (fun k => ib (f k)) m) := by
    rcases h.que.row.2 with ⟨k, _⟩ | ⟨q', cap', cur, k, hb, hg, h1, h2, h3, h4⟩
    · cases k
    · cases k
      refine ⟨by rw [ptrs_len, Nat.mul_one], Or.inr ⟨q, cap, cur, rfl, hb, hg, by omega, h2, h3, ?_⟩⟩
      rw [← ptrs_take (fun k => ib (f k)) (n := m + 1) (m := m) (by omega), ← h4, List.take_take]
      congr 1
      omega
  obtain ⟨x, hx⟩ : ∃ x, ib (f m) = x := ⟨_, rfl⟩
  rw [hx] at cm
  have HX := Lib.hid hx
  have HP := Lib.hid (Stt.put h.que.blk hr2 (fun e => hqg (by injection e)) h.its h.bel h.lim h.old h.kept)
  have hl1 : (m : Int) + 1 - 1 = (m : Int) := by omega
  clear h hcell hr2 hx
  go_enter Tryz.func267, Tryz.ntmps267
  go_wp2_with fail
  go_ret
  exact ⟨by rw [HX.out]; rfl, _, HP.out⟩
/-- A heap in a queue, whatever its slice. -/
def HeapAt (w0 wz : World) (B g : Nat) (fr fc : FuncId) (way : Int) (n N : Nat) (ib : Nat → Nat) (d : Nat → Dat) (lt : Nat → Nat → Bool) (S : Nat → Prop) (W : World) : Prop :=
  ∃ v f, Stt W w0 wz B g fr fc way v n N f ib d ∧ Heap lt f n ∧ Hold f n S
set_option maxRecDepth 100000 in
theorem hPush_any {W w0 wz : World} {B g n N x : Nat} {fr fc : FuncId} {way : Int} {ib : Nat → Nat} {d : Nat → Dat} {cv : Nat → Nat → Int} {S : Nat → Prop} (o : Ord (ltV cv way)) (eg : Enters fc) (hC : Compares w0 B fc N ib d cv) (hS : ∀ a, S a → a < N) (hn : n < 1000000)
    (h : HeapAt w0 wz B g fr fc way n N ib d (ltV cv way) S W) (hx : x < N) (hnx : ¬ S x) :
    Calls Tryz.prog 32 #[hif g, iif (ib x)] W fun e w' => (∃ r, e = .returned r) ∧ HeapAt w0 wz B g fr fc way (n + 1) N ib d (ltV cv way) (fun a => S a ∨ a = x) w' := by
  obtain ⟨v, f, hs, hp, hh⟩ := h
  have hm := fun w => m_push g w
  have hl := fun w => m_len g w
  have CP := Lib.hid (sPush_any (x := x) hs (by omega))
  have HP := Lib.hid (UpH.start (f' := fun k => if k = n then x else f k) hp (fun k hk => if_neg (by omega)))
  have HH := Lib.hid (Hold.push (f' := fun k => if k = n then x else f k) hh (fun k hk => if_neg (by omega)) (if_pos rfl) hnx)
  have HO := Lib.hid o
  have HC := Lib.hid hC
  have HEG := Lib.hid eg
  have HS := Lib.hid (show ∀ a, (S a ∨ a = x) → a < N from fun a k => k.elim (hS a) (fun e => e ▸ hx))
  clear hs hp hh o hC eg hS hnx
  go_enter Tryz.func32, Tryz.ntmps32
  go_wp2_with fail
  refine CP.out.mono ?_
  rintro e W2 ⟨⟨r, rfl⟩, v', hs2⟩
  have HS2 := Lib.hid hs2
  have CL := Lib.hid (qLen_any hs2.que)
  have hl1 : ((n + 1 : Nat) : Int) - 1 = (n : Int) := by omega
  obtain ⟨n1, hn1⟩ : ∃ n1, n + 1 = n1 := ⟨_, rfl⟩
  rw [hn1] at CL hl1
  have hb1 : 1 ≤ n1 ∧ n1 ≤ 1000000 := by omega
  have HN := Lib.hid hn1
  clear hs2 CP hn1
  go_wp2_with fail
  refine CL.out.mono ?_
  rintro e w' ⟨rfl, rfl⟩
  have hs2 := HS2.out
  have hu := HP.out
  have hh := HH.out
  rw [HN.out] at hs2 hu hh
  have CU := Lib.hid (up_any HO.out HEG.out HC.out HS.out (by omega) hs2 hu hh (by omega))
  clear hs2 hu hh
  go_wp2_with fail
  refine CU.out.mono ?_
  rintro e W3 ⟨⟨r, rfl⟩, f3, h3⟩
  have H3 := Lib.hid h3
  clear h3
  go_wp2_with fail
  go_end0
  rw [HN.out]
  exact ⟨⟨_, rfl⟩, v', f3, H3.out⟩
set_option maxRecDepth 100000 in
theorem hPop_any {W w0 wz : World} {B g m N : Nat} {fr fc : FuncId} {way : Int} {ib : Nat → Nat} {d : Nat → Dat} {cv : Nat → Nat → Int} {S : Nat → Prop} {v : Value} {f : Nat → Nat} (o : Ord (ltV cv way)) (eg : Enters fc) (hC : Compares w0 B fc N ib d cv) (hS : ∀ a, S a → a < N) (hn : m < 1000000)
    (hs : Stt W w0 wz B g fr fc way v (m + 1) N f ib d) (hp : Heap (ltV cv way) f (m + 1)) (hh : Hold f (m + 1) S) :
    Calls Tryz.prog 34 #[hif g] W fun e w' => e = .returned (iif (ib (f 0))) ∧ HeapAt w0 wz B g fr fc way m N ib d (ltV cv way) (fun a => S a ∧ a ≠ f 0) w' := by
  have hm := fun w => m_pop g w
  have hl := fun w => m_len g w
  have hsw := fun w => m_swap g w
  have CL := Lib.hid (qLen_any hs.que)
  have CS := Lib.hid (qSwap_any hs.que 0 m (by omega) (by omega))
  have HST := Lib.hid hs
  have HD := Lib.hid (DownH.start hp)
  have hh2 := (hh.swp (i := 0) (j := m) (by omega) (by omega)).pop
  rw [swp_j] at hh2
  have HH := Lib.hid hh2
  have HO := Lib.hid o
  have HC := Lib.hid hC
  have HEG := Lib.hid eg
  have HS := Lib.hid (show ∀ a, (S a ∧ a ≠ f 0) → a < N from fun a k => hS a k.1)
  have hl1 : ((m + 1 : Nat) : Int) - 1 = (m : Int) := by omega
  obtain ⟨n1, hn1⟩ : ∃ n1, m + 1 = n1 := ⟨_, rfl⟩
  rw [hn1] at CL hl1
  have hb1 : 1 ≤ n1 ∧ n1 ≤ 1000000 := by omega
  have HN := Lib.hid hn1
  have h00 : ((0 : Nat) : Int) = 0 := rfl
  rw [h00] at CS
  clear hs hp hh hh2 o hC eg hS hn1 h00
  go_enter Tryz.func34, Tryz.ntmps34
  go_wp2_with fail
  refine CL.out.mono ?_
  rintro e w' ⟨rfl, rfl⟩
  go_wp2_with fail
  refine CS.out.mono ?_
  rintro e W2 ⟨rfl, hq, hg⟩
  have hs2 := HST.out.swap hq hg
  have CD := Lib.hid (down_any HO.out HEG.out HC.out HS.out (by omega) (by omega) hs2 HD.out HH.out (swp_j f 0 m))
  clear hs2 hq hg
  go_wp2_with fail
  refine CD.out.mono ?_
  rintro e W3 ⟨⟨r, rfl⟩, f3, hs3, hp3, hh3, hx3⟩
  have CP := Lib.hid (sPop_any hs3 (by omega))
  rw [hx3] at CP
  have H3 := Lib.hid (And.intro hp3 hh3)
  clear hs3 hp3 hh3 hx3
  go_wp2_with fail
  refine CP.out.mono ?_
  rintro e W4 ⟨rfl, v4, hs4⟩
  have HS4 := Lib.hid hs4
  clear hs4
  go_wp2_with fail
  go_ret
  exact ⟨rfl, v4, f3, HS4.out, H3.out⟩
end Go.Proofs.YtdliiohjbnlieaaGreatDoor
