/- Several texts in one (A region that draws its order and only reads, in a round of a loop over an iterator: one walk in the order of the text; Blocks of cells: what lies in them, and what is kept; Arrays in memory: what their maps read as; sums over what is left of a range; plain; Contracts of layer 8: an array's parts; Contracts of layer 8: New, add; Contracts of layer 8: Set, Get; Contracts of layer 8: Sub; Contracts of layer 8: Total; Contracts of layer 8: the values of an array's map, in any order; Contracts of layer 8: the elements of an array, gathered; Contracts of layer 8: the elements of an array in the order in which they came; Contracts of layer 8: the elements of an array sorted by when they came; Plain: a heap of numbers, by places; what stands in order is told by its numbers. No walk here). -/
import Derived.Sort.QuietIn
import Derived.RangeFuncCalls
import Derived.Test.YtnbagigbaceonaaGreatDoorProg
import Derived.WalkSmall
import Derived.WalkKit
import Derived.WalkSpells
import Derived.WalkLawsBesides
import Derived.ProofKit
import Derived.Below
import Derived.Lib.Hide
import Derived.Laws.OwnMore
import Derived.Lib.SmallJoins
import Derived.Maps.OwnSet
import Derived.Maps.RangeWalk
import Derived.Test.YtnbagigbaceonaaGreatDoorShelf
import Derived.RegionTactic
import Derived.Deep.RegionHeld3
import Derived.Sort.MapsRangeIn
import Derived.RangeFuncKeeps
import Derived.RangeFuncNested
import Derived.RangeFuncBound
import Derived.RangeFuncLeaves
import Derived.Shelf.Abstract
import Derived.Shelf.RegionOpen
import Derived.OwnWalkIn
import Derived.TacticsInMore
import Derived.LoopNIn
import Derived.LoopIn
import Derived.Deep.Upon
import Derived.BigFrameIn
import Derived.RangeFuncBox
import Derived.RangeFuncFrom
import Derived.Laws.IdiomRangeMap
import Derived.Maps.OwnIn
import Derived.BigQuiet
import Derived.Deep.QuietTactic
import Derived.Shelf.SlSortCmp.Whole1
import Derived.Test.YtnbagigbaceonaaGreatDoorPtShelf
namespace Go.Proofs.YtnbagigbaceonaaGreatDoor
open Go

theorem oper_inRound {F : Fence} {n : Nat} {P : Program} {o : Oper} {a : Act} {w : World} {K : Act → World → Prop} {Q : Exit → Act → World → Prop} (l : Nat) (hro : F.round = none) (hd : ∀ c, o.op ≠ .defer c) (h : o.wpIn F n P a w K Q) : o.wpIn (F.inRound l) n P a w K Q := by
  unfold Oper.wpIn at *
  refine ⟨h.1, ?_⟩
  have h2 := h.2
  rw [hro, Oper.semAt_none] at h2
  rw [Oper.semAt_eq _ _ _ hd]
  generalize (execOp a.eval o).run P w = r at *
  cases r with
  | ok x w' => cases x <;> exact h2
  | halt x w' => cases x <;> exact h2
theorem wpOp_inRound {F : Fence} {n : Nat} {P : Program} {ops : Array Oper} {i : Nat} {a : Act} {w : World} {K K' : Act → World → Prop} {Q : Exit → Act → World → Prop} (l : Nat) (hro : F.round = none) (hd : ∀ o, ops[i]? = some o → ∀ c, o.op ≠ .defer c) (hK : ∀ a w, K a w → K' a w) (h : wpOpIn F n P ops Q i K a w) : wpOpIn (F.inRound l) n P ops Q i K' a w := by
  refine wpOpIn_mono hK ?_
  unfold wpOpIn at *
  cases ho : ops[i]? with
  | none =>
    simp only [ho] at h ⊢
    exact h
  | some o =>
    simp only [ho] at h ⊢
    split
    · rename_i hw
      rw [if_pos hw] at h
      exact oper_inRound l hro (hd o ho) h
    · rename_i hw
      rw [if_neg hw] at h
      exact h
theorem wpAny_inRound {F : Fence} {n : Nat} {P : Program} {md : Region.Mode} {ops : Array Oper} {Q : Exit → Act → World → Prop} (l : Nat) (hro : F.round = none) (hd : ∀ (i : Nat) (o : Oper), ops[i]? = some o → ∀ c, o.op ≠ .defer c) : ∀ (fuel : Nat) (listed : Array Bool) (a : Act) (w : World), wpAnyIn F n P md ops Q fuel listed a w → wpAnyIn (F.inRound l) n P md ops Q fuel listed a w
  | 0, _, _, _, h => h
  | fuel + 1, _, _, _, h => ⟨h.1, fun i hi => wpOp_inRound l hro (hd i) (fun a w => wpAny_inRound l hro hd fuel _ a w) (h.2 i hi)⟩
def noDefer (lo : List Oper) : Bool := lo.all fun o => match o.op with | .defer _ => false | _ => true
theorem region_quiet_round {F : Fence} {n : Nat} {P : Program} {id : Nat} {Q : Exit → Act → World → Prop} {a : Act} {w : World} {lo : List Oper} (l : Nat) (hro : F.round = none) (hm : P.follows .mixedOrders = true) (hB : Region.lexB .any lo.toArray = true) (hdf : noDefer lo = true)
    (h : wpQuietIn F n P lo.toArray (fun w' => ∃ n, w' = w.drewN n) (fun a' => ∀ w', (∃ n, w' = w.drewN n) → Q .normal a' w') lo a) : (Code.region id lo.toArray true).wpIn (F.inRound l) n P Q a w := by
  have hB' := hB
  simp only [Region.lexB, Bool.and_eq_true] at hB
  refine wpIn_region_any hm (wpAny_inRound l hro (fun i o ho c e => ?_) _ _ _ _ (wpAnyIn_of_quiet (C := fun w' => ∃ n, w' = w.drewN n) (Q := fun a' => ∀ w', (∃ n, w' = w.drewN n) → Q .normal a' w') hro (fun _ w' hw' h => h w' hw') _ _ _ _ ⟨1, rfl⟩ ?_))
  · have hm := List.all_eq_true.1 hdf o (List.mem_of_getElem? (by simpa using ho))
    rw [e] at hm
    cases hm
  · have := wpAnyQIn_lex (F := F) (n := n) (P := P) (C := fun w' => ∃ n, w' = w.drewN n) (md := .any) hB.1 lo 0 (Array.replicate lo.toArray.size false) a (by simp) (by simpa using hB.2) h
    simpa using this
end Go.Proofs.YtnbagigbaceonaaGreatDoor

namespace Go.Proofs.YtnbagigbaceonaaGreatDoor
open Go.RowKit Go.Lib

/-- Block g is this row of cells. -/
structure Blk (W : World) (g : Nat) (cs : Array Value) (t : TypeId) : Prop where
  row : W.heap[g]? = some (.cells cs t (0, 0))
theorem as_vint {κ : IntKind} {a b : Int} (h : a = b) : Value.int κ a = Value.int κ b := by rw [h]
theorem Blk.lt {W : World} {g : Nat} {cs : Array Value} {t : TypeId} (h : Blk W g cs t) : g < W.heap.size := (Array.getElem?_eq_some_iff.1 h.row).1
theorem Blk.cell {W : World} {g : Nat} {cs : Array Value} {t : TypeId} (h : Blk W g cs t) (j : Nat) : W.cell? ⟨g, j, none⟩ = cs[j]? := cell_of_row W _ j _ _ _ h.row
theorem Blk.fro {W : World} {g : Nat} {cs : Array Value} {t : TypeId} (h : Blk W g cs t) (j : Nat) : W.frozen? ⟨g, j, none⟩ = false := frozen_of_row W _ j _ _ h.row
theorem Blk.below {W W' : World} {g B : Nat} {cs : Array Value} {t : TypeId} (h : Blk W g cs t) (hb : Below B W W') (hg : g < B) : Blk W' g cs t := ⟨(hb.block g hg).trans h.row⟩
theorem Blk.new (w : World) (cs : Array Value) (t : TypeId) : Blk (w.alloc (.cells cs t)) w.heap.size cs t := ⟨heap_alloc_new w _⟩
theorem Blk.alloc {W : World} {g : Nat} {cs : Array Value} {t : TypeId} (h : Blk W g cs t) (o : Obj) : Blk (W.alloc o) g cs t := ⟨(Below.heap_alloc W o g h.lt).trans h.row⟩
theorem Blk.set {W : World} {g j : Nat} {cs : Array Value} {t : TypeId} {u : Value} (h : Blk W g cs t) : Blk (W.setCell ⟨g, j, none⟩ u) g (cs.setIfInBounds j u) t := ⟨heap_setCell_same W g j cs t u h.row⟩
theorem Blk.other {W : World} {g g' j : Nat} {cs : Array Value} {t : TypeId} {u : Value} (h : Blk W g cs t) (hne : g ≠ g') : Blk (W.setCell ⟨g', j, none⟩ u) g cs t := by
  refine ⟨?_⟩
  rw [Below.heap_setCell W ⟨g', j, none⟩ u g hne]
  exact h.row
theorem Blk.grown {W W' : World} {g : Nat} {cs : Array Value} {t : TypeId} {r : Option Nat} (h : Blk W g cs t) (hg : W.grownBy W' r) (hne : some g ≠ r) : Blk W' g cs t := ⟨(hg.block g h.lt hne).trans h.row⟩
/-- Of what was there nothing has turned but blocks a and m. -/
structure Off2 (a m : Nat) (w w' : World) : Prop where
  os : w'.os = w.os
  tape : w'.tape = w.tape
  output : w'.output = w.output
  size : w.heap.size ≤ w'.heap.size
  block : ∀ i, i < w.heap.size → i ≠ a → i ≠ m → w'.heap[i]? = w.heap[i]?
theorem Off2.of_below {a m : Nat} {w w' : World} (h : Below w.heap.size w w') : Off2 a m w w' := ⟨h.os, h.tape, h.output, h.size, fun i hi _ _ => h.block i hi⟩
theorem Off2.trans {a m : Nat} {w w1 w2 : World} (h : Off2 a m w w1) (k : Off2 a m w1 w2) : Off2 a m w w2 := ⟨k.os.trans h.os, k.tape.trans h.tape, k.output.trans h.output, Nat.le_trans h.size k.size, fun i hi h1 h2 => (k.block i (Nat.lt_of_lt_of_le hi h.size) h1 h2).trans (h.block i hi h1 h2)⟩
theorem Off2.turned {a m : Nat} {w w' : World} (ht : w.mapTurned w' m) : Off2 a m w w' := by
  have g := ht.grown
  exact ⟨g.os, g.tape, g.output, g.size, fun i hi _ h2 => g.block i hi (by simp; omega)⟩
theorem Off2.setCell (w : World) (a m j : Nat) (u : Value) : Off2 a m w (w.setCell ⟨a, j, none⟩ u) := by
  have b := (Below.refl 0 w).setCell (p := ⟨a, j, none⟩) (Nat.zero_le _) u
  exact ⟨b.os, b.tape, b.output, b.size, fun i _ h1 _ => Below.heap_setCell w ⟨a, j, none⟩ u i h1⟩
theorem Off2.below {a m B : Nat} {w w' : World} (h : Off2 a m w w') (h1 : B ≤ a) (h2 : B ≤ m) (h3 : B ≤ w.heap.size) : Below B w w' := ⟨h.os, h.tape, h.output, h.size, fun i hi => h.block i (by omega) (by omega) (by omega)⟩
theorem Blk.off2 {a m : Nat} {W W' : World} {g : Nat} {cs : Array Value} {t : TypeId} (h : Blk W g cs t) (o : Off2 a m W W') (h1 : g ≠ a) (h2 : g ≠ m) : Blk W' g cs t := ⟨(o.block g h.lt h1 h2).trans h.row⟩
/-- A store into a block that was not there: aside. -/
theorem Off2.fresh {a m : Nat} {w w' : World} (h : Off2 a m w w') {p : Addr} (hp : w.heap.size ≤ p.block) (u : Value) : Off2 a m w (w'.setCell p u) := by
  have b := (Below.refl 0 w').setCell (p := p) (Nat.zero_le _) u
  exact ⟨b.os.trans h.os, b.tape.trans h.tape, b.output.trans h.output, Nat.le_trans h.size b.size, fun i hi h1 h2 => (Below.heap_setCell w' p u i (by omega)).trans (h.block i hi h1 h2)⟩
end Go.Proofs.YtnbagigbaceonaaGreatDoor

namespace Go.Proofs.YtnbagigbaceonaaGreatDoor
open Go.RowKit Go.Lib Go.Maps

/-- What a map of pointers reads as: the pointers themselves. -/
abbrev AD := DataW Value
def asR (v : Value) : Option (AD × List MemPlace) := some (.held v, [])
def klS (s : ByteArray) : Lit := .string s.data.toList
abbrev ptrB (e : Nat) : Value := .pointer (some ⟨e, 0, none⟩)
abbrev nilP : Value := .pointer none
theorem law_s : Keyed Tryz.prog 9 := string_keyed Tryz.underlying9
theorem key_s {s : ByteArray} (h : s.size ≤ maxLen) : keyOf Tryz.prog 9 (.string s) = some (klS s) := Go.WideMaps.keyOf_string_mk Tryz.underlying9 h
theorem zeroE (w : World) : (zeroValue 54).run Tryz.prog w = .ok (.pointer none) w := by kernel_rfl
theorem klS_inj {s t : ByteArray} (h : klS s = klS t) : s = t := by
  have h2 : s.data.toList = t.data.toList := by injection h
  exact ByteArray.ext (Array.toList_inj.1 h2)
theorem klS_key (s : ByteArray) : WideAt.IsKeyLit (klS s) := trivial
theorem look_run {W : World} {m n : Nat} {D : AD} {s : ByteArray} {v : Value} (h : W.ownsMap Tryz.prog 9 asR m n D) (hs : s.size ≤ maxLen) (hat : D.atKey (klS s) (.held nilP) = .held v) :
    (Instr.lookup 51 (.map (some m)) (.string s) false).run Tryz.prog W = .ok v W := by
  obtain ⟨u, ps, hr, hu⟩ := h.lookup law_s Tryz.underlying51 (zeroE W) (zd := .held nilP) (zp := []) rfl (key_s hs)
  unfold asR at hu
  rw [hat] at hu
  simp only [Option.some.injEq, Prod.mk.injEq, DataW.held.injEq] at hu
  rw [hr, hu.1]
/-- Below, as the maps' laws say it. -/
theorem below_grown {w w' : World} (h : Below w.heap.size w w') : w.grownBy w' none := ⟨h.os, h.tape, h.output, h.size, fun i hi _ => h.block i hi⟩
/-- An array: two cells, and its map. -/
structure Arr (W : World) (a m n : Nat) (came : Int) (D : AD) : Prop where
  row : Blk W a #[.map (some m), .int .i64 came] 53
  own : W.ownsMap Tryz.prog 9 asR m n D
theorem Arr.below {W W' : World} {a m n : Nat} {came : Int} {D : AD} {B : Nat} (h : Arr W a m n came D) (hb : Below B W W') (ha : a < B) (hm : m < B) : Arr W' a m n came D := by
  refine ⟨⟨(hb.block a ha).trans h.row.row⟩, ?_⟩
  obtain ⟨es, clock, hh, F, hs, hD⟩ := h.own
  exact ⟨es, clock, (hb.block m hm).trans hh, F, hs, hD⟩
theorem Arr.off2 {W W' : World} {a m n x y : Nat} {came : Int} {D : AD} (h : Arr W a m n came D) (o : Off2 x y W W') (h1 : a ≠ x) (h2 : a ≠ y) (h3 : m ≠ x) (h4 : m ≠ y) : Arr W' a m n came D := by
  refine ⟨h.row.off2 o h1 h2, ?_⟩
  have hlt := h.own.lt
  obtain ⟨es, clock, hh, F, hs, hD⟩ := h.own
  exact ⟨es, clock, (o.block m hlt h3 h4).trans hh, F, hs, hD⟩
theorem Arr.setCell {W : World} {a m n : Nat} {came : Int} {D : AD} (h : Arr W a m n came D) {p : Addr} (ha : a ≠ p.block) (hm : m ≠ p.block) (u : Value) : Arr (W.setCell p u) a m n came D := by
  obtain ⟨b, off, s⟩ := p
  refine ⟨⟨?_⟩, h.own.setCell hm u⟩
  rw [Below.heap_setCell W ⟨b, off, s⟩ u a ha]
  exact h.row.row
theorem Arr.kept {W W' : World} {a m n : Nat} {came : Int} {D : AD} (h : Arr W a m n came D) (hb : Below W.heap.size W W') : Arr W' a m n came D := h.below hb h.row.lt h.own.lt
/-- An element. -/
abbrev Elt (W : World) (e : Nat) (key : ByteArray) (num kind : Int) (N : Nat) (S : ByteArray) (sub : Value) : Prop := Blk W e #[.string key, .int .i64 num, .int .i64 kind, .float .f64 N, .string S, sub] 59
/-- Sums over what is no longer left. -/
def totL (T : Lit → Int) (left : Lit → Bool) (es : List (Lit × AD)) : Int := (es.map fun p => if left p.1 = true then 0 else T p.1).sum
def totA (T : Lit → Int) (es : List (Lit × AD)) : Int := (es.map fun p => T p.1).sum
theorem totL_has (T : Lit → Int) {es : List (Lit × AD)} (hk : ∀ p ∈ es, WideAt.IsKeyLit p.1) : totL T (Maps.has (.map es : AD)) es = 0 := by
  unfold totL
  have : (es.map fun p => if Maps.has (.map es : AD) p.1 = true then 0 else T p.1) = es.map fun _ => (0 : Int) := by
    apply List.map_congr_left
    intro p hp
    rw [if_pos]
    exact List.any_eq_true.2 ⟨p, hp, WideAt.sameKey_self (hk p hp)⟩
  rw [this]
  clear this hk
  induction es with
  | nil => rfl
  | cons p es ih => rw [List.map_cons, List.sum_cons, ih]; rfl
theorem totL_none (T : Lit → Int) {left : Lit → Bool} (h : ∀ kl, left kl = false) (es : List (Lit × AD)) : totL T left es = totA T es := by
  unfold totL totA
  congr 1
  apply List.map_congr_left
  intro p _
  rw [h p.1]
  rfl
theorem totL_strike (T : Lit → Int) {left : Lit → Bool} {kl : Lit} (hl : left kl = true) : ∀ {es : List (Lit × AD)}, es.Pairwise (fun p q => p.1 ≠ q.1) → (∀ p ∈ es, WideAt.IsKeyLit p.1) → (∃ p ∈ es, p.1 = kl) → totL T (fun z => left z && !z.sameKey kl) es = totL T left es + T kl := by
  have away : ∀ (es : List (Lit × AD)), (∀ p ∈ es, p.1 ≠ kl) → totL T (fun z => left z && !z.sameKey kl) es = totL T left es := by
    intro es h
    unfold totL
    congr 1
    apply List.map_congr_left
    intro p hp
    have : p.1.sameKey kl = false := by
      cases q : p.1.sameKey kl with
      | false => rfl
      | true => exact absurd (WideAt.sameKey_eq q) (h p hp)
    show (if (left p.1 && !p.1.sameKey kl) = true then (0 : Int) else T p.1) = _
    rw [this]
    simp
  intro es
  induction es with
  | nil => intro _ _ h; obtain ⟨p, hp, _⟩ := h; cases hp
  | cons p es ih =>
    intro hp hk hex
    have hp1 := (List.pairwise_cons.1 hp).1
    have hp2 := (List.pairwise_cons.1 hp).2
    have cons : ∀ l : Lit → Bool, totL T l (p :: es) = (if l p.1 = true then 0 else T p.1) + totL T l es := fun l => by unfold totL; rw [List.map_cons, List.sum_cons]
    rw [cons, cons]
    by_cases e : p.1 = kl
    · subst e
      rw [away es (fun q hq => fun h => hp1 q hq h.symm)]
      show (if (left p.1 && !p.1.sameKey p.1) = true then (0 : Int) else T p.1) + _ = _
      rw [WideAt.sameKey_self (hk p (List.mem_cons_self ..)), hl]
      simp
      omega
    · have hne : p.1.sameKey kl = false := by
        cases q : p.1.sameKey kl with
        | false => rfl
        | true => exact absurd (WideAt.sameKey_eq q) e
      show (if (left p.1 && !p.1.sameKey kl) = true then (0 : Int) else T p.1) + _ = _
      rw [hne, ih hp2 (fun q hq => hk q (List.mem_cons_of_mem _ hq)) (by
        obtain ⟨q, hq, hqe⟩ := hex
        rcases List.mem_cons.1 hq with rfl | h
        · exact absurd hqe e
        · exact ⟨q, h, hqe⟩)]
      simp
      omega
theorem mem_of_at {es : List (Lit × AD)} {kl : Lit} {y : AD} (hk : WideAt.IsKeyLit kl) (hap : es.Pairwise (fun p q => p.1 ≠ q.1)) (hat : ∀ zd, (DataW.map es : AD).atKey kl zd = y) : ∃ p ∈ es, p.1 = kl ∧ p.2 = y := by
  have h := Maps.has_true_of_atKey hat
  obtain ⟨p, hp, hpk⟩ := List.any_eq_true.1 h
  have e := WideAt.sameKey_eq hpk
  refine ⟨p, hp, e, ?_⟩
  have := WideAt.atKey_mem (d := p.2) (.held nilP) hk hap (by rw [← e]; exact hp)
  rw [← this]
  exact hat _
end Go.Proofs.YtnbagigbaceonaaGreatDoor

namespace Go.Proofs.YtnbagigbaceonaaGreatDoor
open Go.RowKit Go.Lib Go.Maps

theorem asClone_any (s : ByteArray) (w : World) (hs : s.size ≤ 281474976710656) : Calls Tryz.prog 27 #[.string s] w fun e w' => e = .returned (.string s) ∧ Below w.heap.size w w' := by
  have C := Lib.hid (Tryz.stringslite_Clone s w hs)
  go_enter Tryz.func27, Tryz.ntmps27
  go_wp2_with fail
  refine C.out.mono ?_
  rintro e w' ⟨rfl, hB⟩
  go_wp2
  go_ret
  exact ⟨rfl, hB⟩
theorem held_any {W : World} {a m n : Nat} {came : Int} {D : AD} (h : Arr W a m n came D) : Calls Tryz.prog 20 #[ptrB a] W fun e w' => e = .returned (.map (some m)) ∧ W = w' := by
  have c0 : W.cell? ⟨a, 0, none⟩ = some (.map (some m)) := h.row.cell 0
  clear h
  go_enter Tryz.func20, Tryz.ntmps20
  go_wp2
  go_ret
  exact ⟨rfl, rfl⟩
/-- What kind answers. -/
def KindIs (W : World) (v : Value) (k : Int) : Prop := Calls Tryz.prog 21 #[v] W fun e w' => e = .returned (.int .i64 k) ∧ W = w'
theorem kind_nil (W : World) : KindIs W nilP 0 := by
  unfold KindIs
  go_enter Tryz.func21, Tryz.ntmps21
  go_wp2
  go_ret
  exact ⟨rfl, rfl⟩
theorem kind_val {W : World} {e : Nat} {key : ByteArray} {num kind : Int} {N : Nat} {S : ByteArray} (h : Elt W e key num kind N S nilP) : KindIs W (ptrB e) 1 := by
  unfold KindIs
  have c5 : W.cell? ⟨e, 5, none⟩ = some nilP := h.cell 5
  clear h
  go_enter Tryz.func21, Tryz.ntmps21
  go_wp2
  go_ret
  exact ⟨rfl, rfl⟩
theorem kind_arr {W : World} {e s : Nat} {key : ByteArray} {num kind : Int} {N : Nat} {S : ByteArray} (h : Elt W e key num kind N S (ptrB s)) : KindIs W (ptrB e) 2 := by
  unfold KindIs
  have c5 : W.cell? ⟨e, 5, none⟩ = some (ptrB s) := h.cell 5
  clear h
  go_enter Tryz.func21, Tryz.ntmps21
  go_wp2
  go_ret
  exact ⟨rfl, rfl⟩
theorem kindKey_any {W : World} {a m n : Nat} {came : Int} {D : AD} (h : Arr W a m n came D) (s : ByteArray) (hs : s.size ≤ maxLen) {v : Value} {k : Int} (hat : D.atKey (klS s) (.held nilP) = .held v) (hk : KindIs W v k) :
    Calls Tryz.prog 7 #[ptrB a, .string s] W fun e w' => e = .returned (.int .i64 k) ∧ W = w' := by
  have CH := Lib.hid (held_any h)
  have hl := look_run h.own hs hat
  have CK := Lib.hid hk
  clear h hat hk
  go_enter Tryz.func7, Tryz.ntmps7
  go_wp2_with fail
  refine CH.out.mono ?_
  rintro e w' ⟨rfl, rfl⟩
  go_wp2_with fail
  refine (show Calls _ _ _ _ _ from CK.out).mono ?_
  rintro e w' ⟨rfl, rfl⟩
  go_wp2
  go_ret
  exact ⟨rfl, rfl⟩
theorem asLen_any {W : World} {a m n : Nat} {came : Int} {D : AD} (h : Arr W a m n came D) :
    Calls Tryz.prog 13 #[ptrB a] W fun e w' => e = .returned (.int .i64 (Maps.size D)) ∧ W = w' := by
  have CH := Lib.hid (held_any h)
  have hl := fun ty => h.own.len (t := 51) Tryz.underlying51 ty
  clear h
  go_enter Tryz.func13, Tryz.ntmps13
  go_wp2_with fail
  refine CH.out.mono ?_
  rintro e w' ⟨rfl, rfl⟩
  go_wp2
  go_ret
  exact ⟨rfl, rfl⟩
theorem Blk.three {W : World} {g : Nat} {a b c : Value} {t : TypeId} (h : Blk W g #[a, b, c] t) : W.cell? ⟨g, 0, none⟩ = some a ∧ W.cell? ⟨g, 1, none⟩ = some b ∧ W.cell? ⟨g, 2, none⟩ = some c ∧ W.frozen? ⟨g, 0, none⟩ = false ∧ W.frozen? ⟨g, 1, none⟩ = false ∧ W.frozen? ⟨g, 2, none⟩ = false :=
  ⟨h.cell 0, h.cell 1, h.cell 2, h.fro 0, h.fro 1, h.fro 2⟩
theorem as_end3 {w W : World} {B B0 : Nat} {t : TypeId} {a0 a1 a2 : Value} (v0 v1 v2 : Value) (F : Blk W B #[a0, a1, a2] t) (h : Below B0 w W) (hB : B0 ≤ B) :
    Blk (((W.setCell ⟨B, 0, none⟩ v0).setCell ⟨B, 1, none⟩ v1).setCell ⟨B, 2, none⟩ v2) B #[v0, v1, v2] t ∧ Below B0 w (((W.setCell ⟨B, 0, none⟩ v0).setCell ⟨B, 1, none⟩ v1).setCell ⟨B, 2, none⟩ v2) :=
  ⟨((F.set (j := 0) (u := v0)).set (j := 1) (u := v1)).set (j := 2) (u := v2), ((h.setCell (p := ⟨B, 0, none⟩) hB _).setCell (p := ⟨B, 1, none⟩) hB _).setCell (p := ⟨B, 2, none⟩) hB _⟩
theorem as_store_float (a : Addr) (n : Nat) (m : Mode) (w : World) : (store a (.float .f64 n) m).run Tryz.prog w = stored Tryz.prog w a (.float .f64 n) m := run_store _ w a _ m rfl
/-- Values of the definition. -/
theorem asText_any (s : ByteArray) (w : World) : Calls Tryz.prog 9 #[.string s] w fun e w' => e = .returned (.agg #[.int .i64 2, .float .f64 0, .string s]) ∧ Below w.heap.size w w' := by
  have F := Blk.new w #[.int .i64 0, .float .f64 0, .string ⟨#[]⟩] 32
  obtain ⟨q0, q1, q2, r0, r1, r2⟩ := F.three
  have hst := as_store_float
  clear F
  go_enter Tryz.func9, Tryz.ntmps9
  go_wp2_with fail
  exact bodyPost_ret (v := .agg #[.int .i64 2, .float .f64 0, .string s]) (by simp [results, Tryz.results9, go_sem]) rfl ⟨rfl, (Below.refl w.heap.size w).alloc (Nat.le_refl _) _⟩
theorem asOf_any (x : Nat) (w : World) : Calls Tryz.prog 18 #[.float .f64 x] w fun e w' => e = .returned (.agg #[.int .i64 1, .float .f64 x, .string ⟨#[]⟩]) ∧ Below w.heap.size w w' := by
  have F := Blk.new w #[.int .i64 0, .float .f64 0, .string ⟨#[]⟩] 32
  obtain ⟨q0, q1, q2, r0, r1, r2⟩ := F.three
  have hst := as_store_float
  clear F
  go_enter Tryz.func18, Tryz.ntmps18
  go_wp2_with fail
  exact bodyPost_ret (v := .agg #[.int .i64 1, .float .f64 x, .string ⟨#[]⟩]) (by simp [results, Tryz.results18, go_sem]) rfl ⟨rfl, (Below.refl w.heap.size w).alloc (Nat.le_refl _) _⟩
/-- copied: the same value. -/
theorem copied_any (kind : Int) (N : Nat) (S : ByteArray) (w : World) (hs : S.size ≤ 281474976710656) : Calls Tryz.prog 23 #[.agg #[.int .i64 kind, .float .f64 N, .string S]] w fun e w' => e = .returned (.agg #[.int .i64 kind, .float .f64 N, .string S]) ∧ Below w.heap.size w w' := by
  have C := Lib.hid (fun W => asClone_any S W hs)
  have F := (Blk.new w #[.int .i64 kind, .float .f64 N, .string S] 32).alloc (.cells #[.int .i64 0, .float .f64 0, .string ⟨#[]⟩] 32)
  have G := Blk.new (w.alloc (.cells #[.int .i64 kind, .float .f64 N, .string S] 32)) #[.int .i64 0, .float .f64 0, .string ⟨#[]⟩] 32
  rw [World.size_alloc] at G
  have hb := ((Below.refl w.heap.size w).alloc (Nat.le_refl _) (.cells #[.int .i64 kind, .float .f64 N, .string S] 32)).alloc (by simp) (.cells #[.int .i64 0, .float .f64 0, .string ⟨#[]⟩] 32)
  obtain ⟨q0, q1, q2, r0, r1, r2⟩ := F.three
  obtain ⟨W2, hW2⟩ : ∃ W2, (w.alloc (.cells #[.int .i64 kind, .float .f64 N, .string S] 32)).alloc (.cells #[.int .i64 0, .float .f64 0, .string ⟨#[]⟩] 32) = W2 := ⟨_, rfl⟩
  rw [hW2] at F G hb q0 q1 q2 r0 r1 r2
  have HW2 := Lib.hid hW2
  have HF := Lib.hid F
  have HG := Lib.hid G
  have HB := Lib.hid hb
  clear hW2 F G hb
  go_enter Tryz.func23, Tryz.ntmps23
  go_wp2_with fail
  rw [HW2.out]
  refine (C.out _).mono ?_
  rintro e w' ⟨rfl, h2⟩
  clear q0 q1 q2 r0 r1 r2
  have hle := HB.out.size
  have F2 := HF.out.below h2 HF.out.lt
  have G2 := HG.out.below h2 HG.out.lt
  have HB2 := HB.out.trans (h2.mono hle)
  clear h2 HW2 HF HG HB
  obtain ⟨q0, q1, q2, r0, r1, r2⟩ := F2.three
  obtain ⟨u0, u1, u2, s0, s1, s2⟩ := G2.three
  have hst := as_store_float
  go_wp2_with fail
  clear q0 q1 q2 r0 r1 r2 u0 u1 u2 s0 s1 s2
  have G3 := G2.other (g' := w.heap.size) (j := 2) (u := .string S) (by omega)
  have HB3 := HB2.setCell (p := ⟨w.heap.size, 2, none⟩) (Nat.le_refl _) (.string S)
  obtain ⟨z, hz⟩ := as_end3 (.int .i64 kind) (.float .f64 N) (.string S) G3 HB3 (Nat.le_succ _)
  obtain ⟨q0, q1, q2, -⟩ := z.three
  exact bodyPost_ret (v := .agg #[.int .i64 kind, .float .f64 N, .string S]) (by simp [results, Tryz.results23, go_sem, q0, q1, q2]) rfl ⟨rfl, hz⟩
end Go.Proofs.YtnbagigbaceonaaGreatDoor

namespace Go.Proofs.YtnbagigbaceonaaGreatDoor
open Go.RowKit Go.Lib Go.Maps

theorem new_any (w : World) : Calls Tryz.prog 6 #[] w fun e w' => ∃ a m, e = .returned (ptrB a) ∧ Arr w' a m 0 0 (.map []) ∧ w.heap.size ≤ a ∧ w.heap.size ≤ m ∧ Below w.heap.size w w' := by
  have hmm := @run_makeMap Tryz.prog
  have ho := (World.ownsMap_made w Tryz.prog 9 asR).alloc (.cells #[.map (some w.heap.size), .int .i64 0] 53)
  have hr := Blk.new (w.alloc (.map #[] 0)) #[.map (some w.heap.size), .int .i64 0] 53
  have hb := ((Below.refl w.heap.size w).alloc (Nat.le_refl _) (.map #[] 0)).alloc (by simp) (.cells #[.map (some w.heap.size), .int .i64 0] 53)
  rw [World.size_alloc] at hr
  have HO := Lib.hid ho
  have HR := Lib.hid hr
  have HB := Lib.hid hb
  clear ho hr hb
  go_enter Tryz.func6, Tryz.ntmps6
  go_wp2
  go_ret
  exact ⟨w.heap.size + 1, w.heap.size, rfl, ⟨HR.out, HO.out⟩, by omega, Nat.le_refl _, HB.out⟩
/-- 'm[k] = v': the world behind it. -/
noncomputable def mapPut (W : World) (m : Nat) (s : ByteArray) (v : Value) : World := match (Instr.mapUpdate 51 (.map (some m)) (.string s) v).run Tryz.prog W with | .ok _ w' => w' | _ => W
theorem put_run {W : World} {m n : Nat} {D : AD} (h : W.ownsMap Tryz.prog 9 asR m n D) (hn : n < maxLen) {s : ByteArray} (hs : s.size ≤ maxLen) (v : Value) :
    (Instr.mapUpdate 51 (.map (some m)) (.string s) v).run Tryz.prog W = .ok () (mapPut W m s v) ∧ (mapPut W m s v).ownsMap Tryz.prog 9 asR m (n + 1) (D.put (klS s) (.held v)) ∧ W.mapTurned (mapPut W m s v) m := by
  obtain ⟨w', hr, h1, h2⟩ := h.store law_s Tryz.underlying51 hn (key_s hs) (d := .held v) (ps := []) (val := v) rfl
  have e : mapPut W m s v = w' := by unfold mapPut; rw [hr]
  rw [e]
  exact ⟨hr, h1, h2⟩
theorem asAdd_any {W : World} {a m n : Nat} {came : Int} {D : AD} (h : Arr W a m n came D) (s : ByteArray) (hs : s.size ≤ 281474976710656) (hn : n < maxLen) (hc0 : 0 ≤ came) (hc1 : came < 1000000) :
    Calls Tryz.prog 22 #[ptrB a, .string s] W fun e w' => ∃ el, e = .returned (ptrB el) ∧ W.heap.size ≤ el ∧ Arr w' a m (n + 1) (came + 1) (D.put (klS s) (.held (ptrB el))) ∧ Elt w' el s came 0 0 ⟨#[]⟩ nilP ∧ Off2 a m W w' := by
  have C := Lib.hid (fun W => asClone_any s W hs)
  have hR : Below W.heap.size W W := Below.refl _ _
  have HK := Lib.hid (fun (W' : World) (hb : Below W.heap.size W W') => (show W'.cell? ⟨a, 1, none⟩ = some (.int .i64 came) from (h.kept hb).row.cell 1))
  have c1 : W.cell? ⟨a, 1, none⟩ = some (.int .i64 came) := h.row.cell 1
  have HA := Lib.hid h
  clear h
  go_enter Tryz.func22, Tryz.ntmps22
  go_wp2_with fail
  go_region_held3 (fun w' => w'.cell? ⟨a, 1, none⟩ = some (.int .i64 came))
    (first | (with_reducible exact S1) | go_keep)
    (first | (go_at_call 27; (with_reducible refine (C.out _).mono ?_); rintro e W3 ⟨rfl, h3⟩; have b3 : Below W.heap.size W W3 := ⟨h3.os, h3.tape, h3.output, h3.size, h3.block⟩; have S1 := HK.out _ b3; clear h3))
  rename_i hHeld
  clear hHeld S1 c1
  have A3 := HA.out.kept b3
  have A4 : Arr (W3.alloc (.cells #[.string s, .int .i64 came, .int .i64 0, .float .f64 0, .string ⟨#[]⟩, nilP] 59)) a m n came D := ⟨A3.row.alloc _, A3.own.alloc _⟩
  have E4 := Blk.new W3 #[.string s, .int .i64 came, .int .i64 0, .float .f64 0, .string ⟨#[]⟩, nilP] 59
  have hsz : W.heap.size ≤ W3.heap.size := b3.size
  have b4 := b3.alloc hsz (.cells #[.string s, .int .i64 came, .int .i64 0, .float .f64 0, .string ⟨#[]⟩, nilP] 59)
  have hel : W3.heap.size < (W3.alloc (.cells #[.string s, .int .i64 came, .int .i64 0, .float .f64 0, .string ⟨#[]⟩, nilP] 59)).heap.size := by rw [World.size_alloc]; omega
  obtain ⟨el, hE⟩ : ∃ el, W3.heap.size = el := ⟨_, rfl⟩
  rw [hE] at E4 hsz hel
  obtain ⟨W4, hW4⟩ : ∃ W4, W3.alloc (.cells #[.string s, .int .i64 came, .int .i64 0, .float .f64 0, .string ⟨#[]⟩, nilP] 59) = W4 := ⟨_, rfl⟩
  have HAM := Lib.hid (show a < W.heap.size ∧ m < W.heap.size from ⟨HA.out.row.lt, HA.out.own.lt⟩)
  rw [hW4] at A4 E4 b4 hel
  rw [hE]
  rw [hW4]
  clear A3 b3 hE hW4 HA HK C
  have c0 : W4.cell? ⟨a, 0, none⟩ = some (.map (some m)) := A4.row.cell 0
  have e0 : W4.cell? ⟨el, 0, none⟩ = some (.string s) := E4.cell 0
  obtain ⟨hmu, o5, t5⟩ := put_run (W := W4.drew) (s := s) A4.own hn (by unfold maxLen; omega) (ptrB el)
  have g5 : W4.drew.grownBy (mapPut W4.drew m s (ptrB el)) (some m) := t5.grown
  have ham : a ≠ m := fun e => by
    obtain ⟨es, clock, hh, _⟩ := A4.own
    rw [← e, A4.row.row] at hh
    cases hh
  have r5 : Blk (mapPut W4.drew m s (ptrB el)) a #[.map (some m), .int .i64 came] 53 := (show Blk W4.drew a _ _ from ⟨A4.row.row⟩).grown g5 (by simp; omega)
  have e5 : Elt (mapPut W4.drew m s (ptrB el)) el s came 0 0 ⟨#[]⟩ nilP := (show Blk W4.drew el _ _ from ⟨E4.row⟩).grown g5 (by simp; have := HAM.out; omega)
  have k0 : (mapPut W4.drew m s (ptrB el)).cell? ⟨a, 0, none⟩ = some (.map (some m)) := r5.cell 0
  have k1 : (mapPut W4.drew m s (ptrB el)).cell? ⟨el, 0, none⟩ = some (.string s) := e5.cell 0
  have HB5 := Lib.hid (Off2.trans (a := a) (m := m) (Off2.of_below (show Below W.heap.size W W4.drew from b4.drew)) (Off2.turned t5))
  have HO5 := Lib.hid o5
  have HR5 := Lib.hid r5
  have HE5 := Lib.hid e5
  clear A4 E4 b4 o5 t5 g5 r5 e5
  go_wp2_with fail
  go_region_held3 (fun w' => w'.cell? ⟨a, 0, none⟩ = some (.map (some m)) ∧ w'.cell? ⟨el, 0, none⟩ = some (.string s))
    (first | (with_reducible exact ⟨k0, k1⟩) | go_keep)
    (fail)
  all_goals
    clear c0 e0 k0 k1 hmu
    obtain ⟨W5, hW5⟩ : ∃ W5, mapPut W4.drew m s (ptrB el) = W5 := ⟨_, rfl⟩
    rw [hW5] at HB5 HO5 HR5 HE5 ⊢
    have c1 : W5.cell? ⟨a, 1, none⟩ = some (.int .i64 came) := HR5.out.cell 1
    have f1 : W5.frozen? ⟨a, 1, none⟩ = false := HR5.out.fro 1
    clear hW5
    go_wp2
    go_ret
    exact ⟨el, rfl, hsz, ⟨HR5.out.set (j := 1) (u := .int .i64 (came + 1)), HO5.out.setCell (by simp; omega) _⟩, HE5.out.other (by have := HAM.out; omega), HB5.out.trans (Off2.setCell _ _ _ _ _)⟩
end Go.Proofs.YtnbagigbaceonaaGreatDoor

namespace Go.Proofs.YtnbagigbaceonaaGreatDoor
open Go.RowKit Go.Lib Go.Maps

theorem Blk.six {W : World} {g : Nat} {a b c d e f : Value} {t : TypeId} (h : Blk W g #[a, b, c, d, e, f] t) : (W.cell? ⟨g, 0, none⟩ = some a ∧ W.cell? ⟨g, 1, none⟩ = some b ∧ W.cell? ⟨g, 2, none⟩ = some c ∧ W.cell? ⟨g, 3, none⟩ = some d ∧ W.cell? ⟨g, 4, none⟩ = some e ∧ W.cell? ⟨g, 5, none⟩ = some f) ∧ (W.frozen? ⟨g, 0, none⟩ = false ∧ W.frozen? ⟨g, 1, none⟩ = false ∧ W.frozen? ⟨g, 2, none⟩ = false ∧ W.frozen? ⟨g, 3, none⟩ = false ∧ W.frozen? ⟨g, 4, none⟩ = false ∧ W.frozen? ⟨g, 5, none⟩ = false) :=
  ⟨⟨h.cell 0, h.cell 1, h.cell 2, h.cell 3, h.cell 4, h.cell 5⟩, ⟨h.fro 0, h.fro 1, h.fro 2, h.fro 3, h.fro 4, h.fro 5⟩⟩
/-- Set at a key that isn't there. -/
theorem set_new {W : World} {a m n : Nat} {came : Int} {D : AD} (h : Arr W a m n came D) (s : ByteArray) (hs : s.size ≤ 281474976710656) (hn : n < maxLen) (hc0 : 0 ≤ came) (hc1 : came < 1000000) (hat : D.atKey (klS s) (.held nilP) = .held nilP) (kind : Int) (N : Nat) (S : ByteArray) (hS : S.size ≤ 281474976710656) :
    Calls Tryz.prog 8 #[ptrB a, .string s, .agg #[.int .i64 kind, .float .f64 N, .string S]] W fun e w' => e = .returned (.int .i64 0) ∧ (∃ el, W.heap.size ≤ el ∧ Arr w' a m (n + 1) (came + 1) (D.put (klS s) (.held (ptrB el))) ∧ Elt w' el s came kind N S nilP) ∧ Off2 a m W w' := by
  have X1 := Blk.new W #[.int .i64 kind, .float .f64 N, .string S] 32
  have A1 : Arr (W.alloc (.cells #[.int .i64 kind, .float .f64 N, .string S] 32)) a m n came D := ⟨h.row.alloc _, h.own.alloc _⟩
  have b1 := (Below.refl W.heap.size W).alloc (Nat.le_refl _) (.cells #[.int .i64 kind, .float .f64 N, .string S] 32)
  have hsz : (W.alloc (.cells #[.int .i64 kind, .float .f64 N, .string S] 32)).heap.size = W.heap.size + 1 := World.size_alloc _ _
  have HAM := Lib.hid (show a < W.heap.size ∧ m < W.heap.size from ⟨h.row.lt, h.own.lt⟩)
  have c0 : (W.alloc (.cells #[.int .i64 kind, .float .f64 N, .string S] 32)).cell? ⟨a, 0, none⟩ = some (.map (some m)) := A1.row.cell 0
  have hl := look_run A1.own (s := s) (by unfold maxLen; omega) hat
  obtain ⟨W1, hW1⟩ : ∃ W1, W.alloc (.cells #[.int .i64 kind, .float .f64 N, .string S] 32) = W1 := ⟨_, rfl⟩
  rw [hW1] at X1 A1 b1 hsz
  have HW1 := Lib.hid hW1
  have CK := Lib.hid (kind_nil W1)
  have CA := Lib.hid (asAdd_any A1 s hs hn hc0 hc1)
  have CC := Lib.hid (fun W => copied_any kind N S W hS)
  have HX1 := Lib.hid X1
  have HB1 := Lib.hid b1
  have HSZ := Lib.hid hsz
  clear X1 A1 b1 hW1 h hat hsz
  obtain ⟨B, hB⟩ : ∃ B, W.heap.size = B := ⟨_, rfl⟩
  have HBB := Lib.hid hB
  rw [hB] at HX1 HSZ HAM HB1
  clear hB
  go_enter Tryz.func8, Tryz.ntmps8
  go_wp2_with fail
  rw [HW1.out]
  clear c0 hl
  refine (show Calls _ _ _ _ _ from CK.out).mono ?_
  rintro e w' ⟨rfl, rfl⟩
  go_wp2_with fail
  refine CA.out.mono ?_
  rintro e W2 ⟨el, rfl, hel, hA, hE, hO⟩
  have X2 := HX1.out.off2 hO (by have := HAM.out; omega) (by have := HAM.out; omega)
  obtain ⟨x0, x1, x2, _, _, _⟩ := X2.three
  clear X2
  have HA := Lib.hid hA
  have HE := Lib.hid hE
  have HO := Lib.hid ((Off2.of_below (a := a) (m := m) (by rw [HBB.out]; exact HB1.out)).trans hO)
  have hel2 : B < el := by have := HSZ.out; omega
  clear hA hE hO hel CK CA
  rw [HBB.out]
  go_wp2_with fail
  refine (CC.out _).mono ?_
  rintro e W3 ⟨rfl, h3⟩
  clear x0 x1 x2
  have hE3 := HE.out.below h3 HE.out.lt
  obtain ⟨⟨q0, q1, q2, q3, q4, q5⟩, ⟨r0, r1, r2, r3, r4, r5⟩⟩ := hE3.six
  have hst := as_store_float
  have HA3 := Lib.hid (HA.out.kept h3)
  have HO3 := Lib.hid (HO.out.trans (Off2.of_below h3))
  have HE3 := Lib.hid hE3
  clear hE3 h3 HA HE HO CC
  go_wp2_with fail
  go_ret
  have h1 : W.heap.size ≤ el := by have := HBB.out; omega
  have ha : a ≠ el := by have := HAM.out; omega
  have hm : m ≠ el := by have := HAM.out; omega
  exact ⟨rfl, ⟨el, h1, ((HA3.out.setCell (p := ⟨el, 2, none⟩) ha hm _).setCell (p := ⟨el, 3, none⟩) ha hm _).setCell (p := ⟨el, 4, none⟩) ha hm _, ((HE3.out.set (j := 2) (u := .int .i64 kind)).set (j := 3) (u := .float .f64 N)).set (j := 4) (u := .string S)⟩, ((HO3.out.fresh (p := ⟨el, 2, none⟩) h1 _).fresh (p := ⟨el, 3, none⟩) h1 _).fresh (p := ⟨el, 4, none⟩) h1 _⟩
/-- Set at a key that an array has. -/
theorem set_arr {W : World} {a m n e sb : Nat} {came : Int} {D : AD} (h : Arr W a m n came D) (s : ByteArray) (hs : s.size ≤ 281474976710656) (hat : D.atKey (klS s) (.held nilP) = .held (ptrB e)) {key : ByteArray} {num kd : Int} {M : Nat} {T : ByteArray} (hE : Elt W e key num kd M T (ptrB sb)) (kind : Int) (N : Nat) (S : ByteArray) :
    Calls Tryz.prog 8 #[ptrB a, .string s, .agg #[.int .i64 kind, .float .f64 N, .string S]] W fun e w' => e = .returned (.int .i64 80) ∧ Below W.heap.size W w' := by
  have b1 := (Below.refl W.heap.size W).alloc (Nat.le_refl _) (.cells #[.int .i64 kind, .float .f64 N, .string S] 32)
  have A1 := h.kept b1
  have E1 := hE.below b1 hE.lt
  have c0 : (W.alloc (.cells #[.int .i64 kind, .float .f64 N, .string S] 32)).cell? ⟨a, 0, none⟩ = some (.map (some m)) := A1.row.cell 0
  have hl := look_run A1.own (s := s) (by unfold maxLen; omega) hat
  have CK := Lib.hid (kind_arr E1)
  have HB1 := Lib.hid b1
  clear h hE A1 E1 b1 hat
  go_enter Tryz.func8, Tryz.ntmps8
  go_wp2_with fail
  refine (show Calls _ _ _ _ _ from CK.out).mono ?_
  rintro e w' ⟨rfl, rfl⟩
  go_wp2_with fail
  go_ret
  exact ⟨rfl, HB1.out⟩
/-- Get, of a value. -/
theorem get_val {W : World} {a m n e : Nat} {came : Int} {D : AD} (h : Arr W a m n came D) (s : ByteArray) (hs : s.size ≤ 281474976710656) (hat : D.atKey (klS s) (.held nilP) = .held (ptrB e)) {key : ByteArray} {num kind : Int} {N : Nat} {S : ByteArray} (hE : Elt W e key num kind N S nilP) (hS : S.size ≤ 281474976710656) :
    Calls Tryz.prog 10 #[ptrB a, .string s] W fun e w' => e = .returned (.tuple #[.agg #[.int .i64 kind, .float .f64 N, .string S], .bool true]) ∧ Below W.heap.size W w' := by
  have b1 := (Below.refl W.heap.size W).alloc (Nat.le_refl _) (.cells #[.int .i64 0, .float .f64 0, .string ⟨#[]⟩] 32)
  have R1 := Blk.new W #[.int .i64 0, .float .f64 0, .string ⟨#[]⟩] 32
  have A1 := h.kept b1
  have E1 := hE.below b1 hE.lt
  obtain ⟨W1, hW1⟩ : ∃ W1, W.alloc (.cells #[.int .i64 0, .float .f64 0, .string ⟨#[]⟩] 32) = W1 := ⟨_, rfl⟩
  rw [hW1] at b1 R1 A1 E1
  have HW1 := Lib.hid hW1
  have CH := Lib.hid (held_any A1)
  have hl := look_run A1.own (s := s) (by unfold maxLen; omega) hat
  have CK := Lib.hid (kind_val E1)
  have CC := Lib.hid (fun W => copied_any kind N S W hS)
  have HB1 := Lib.hid b1
  have HR1 := Lib.hid R1
  obtain ⟨⟨_, _, q2, q3, q4, _⟩, _⟩ := E1.six
  clear h hE A1 E1 b1 hat hW1 R1
  go_enter Tryz.func10, Tryz.ntmps10
  go_wp2_with fail
  rw [HW1.out]
  refine CH.out.mono ?_
  rintro e w' ⟨rfl, rfl⟩
  go_wp2_with fail
  refine (show Calls _ _ _ _ _ from CK.out).mono ?_
  rintro e w' ⟨rfl, rfl⟩
  go_wp2_with fail
  refine (CC.out _).mono ?_
  rintro e W2 ⟨rfl, h2⟩
  clear q2 q3 q4 hl
  have R2 := HR1.out.below h2 HR1.out.lt
  have B2 := HB1.out.trans (h2.mono HB1.out.size)
  obtain ⟨u0, u1, u2, s0, s1, s2⟩ := R2.three
  have hst := as_store_float
  obtain ⟨z, hz⟩ := as_end3 (.int .i64 kind) (.float .f64 N) (.string S) R2 B2 (Nat.le_refl _)
  have Z := Lib.hid z
  have HZ := Lib.hid hz
  clear z hz R2 B2 h2
  go_wp2_with fail
  clear u0 u1 u2 s0 s1 s2
  obtain ⟨q0, q1, q2, -⟩ := Z.out.three
  exact bodyPost_ret (v := .tuple #[.agg #[.int .i64 kind, .float .f64 N, .string S], .bool true]) (by simp [results, Tryz.results10, go_sem, q0, q1, q2]) rfl ⟨rfl, HZ.out⟩
end Go.Proofs.YtnbagigbaceonaaGreatDoor

namespace Go.Proofs.YtnbagigbaceonaaGreatDoor
open Go.RowKit Go.Lib Go.Maps

/-- Sub at a key that isn't there. -/
theorem sub_new {W : World} {a m n : Nat} {came : Int} {D : AD} (h : Arr W a m n came D) (s : ByteArray) (hs : s.size ≤ 281474976710656) (hn : n < maxLen) (hc0 : 0 ≤ came) (hc1 : came < 1000000) (hat : D.atKey (klS s) (.held nilP) = .held nilP) :
    Calls Tryz.prog 19 #[ptrB a, .string s] W fun e w' => ∃ el sb mb, e = .returned (.tuple #[ptrB sb, .int .i64 0]) ∧ W.heap.size ≤ el ∧ el < sb ∧ el < mb ∧ Arr w' a m (n + 1) (came + 1) (D.put (klS s) (.held (ptrB el))) ∧ Elt w' el s came 0 0 ⟨#[]⟩ (ptrB sb) ∧ Arr w' sb mb 0 0 (.map []) ∧ Off2 a m W w' := by
  have c0 : W.cell? ⟨a, 0, none⟩ = some (.map (some m)) := h.row.cell 0
  have hl := look_run h.own (s := s) (by unfold maxLen; omega) hat
  have HAM := Lib.hid (show a < W.heap.size ∧ m < W.heap.size from ⟨h.row.lt, h.own.lt⟩)
  have CK := Lib.hid (kind_nil W)
  have CA := Lib.hid (asAdd_any h s hs hn hc0 hc1)
  have CN := Lib.hid new_any
  clear h hat
  go_enter Tryz.func19, Tryz.ntmps19
  go_wp2_with fail
  clear c0 hl
  refine (show Calls _ _ _ _ _ from CK.out).mono ?_
  rintro e w' ⟨rfl, rfl⟩
  go_wp2_with fail
  refine CA.out.mono ?_
  rintro e W2 ⟨el, rfl, hel, hA, hE, hO⟩
  have HA := Lib.hid hA
  have HE := Lib.hid hE
  have HO := Lib.hid hO
  clear hA hE hO CK CA
  go_wp2_with fail
  refine (CN.out _).mono ?_
  rintro e W3 ⟨sb, mb, rfl, hN, hsb, hmb, h3⟩
  have hlt := HE.out.lt
  have h1 : el < sb := by omega
  have h2 : el < mb := by omega
  have hE3 := HE.out.below h3 hlt
  obtain ⟨⟨_, _, _, _, _, q5⟩, ⟨_, _, _, _, _, r5⟩⟩ := hE3.six
  have HA3 := Lib.hid (HA.out.kept h3)
  have HO3 := Lib.hid (HO.out.trans (Off2.of_below h3))
  have HE3 := Lib.hid hE3
  have HN := Lib.hid hN
  clear hE3 h3 HA HE HO CN hN hlt hsb hmb
  go_wp2_with fail
  go_ret2
  have ha : a ≠ el := by have := HAM.out; omega
  have hm : m ≠ el := by have := HAM.out; omega
  exact ⟨el, sb, mb, rfl, hel, h1, h2, HA3.out.setCell (p := ⟨el, 5, none⟩) ha hm _, HE3.out.set (j := 5) (u := ptrB sb), HN.out.setCell (p := ⟨el, 5, none⟩) (by simp; omega) (by simp; omega) _, HO3.out.fresh (p := ⟨el, 5, none⟩) hel _⟩
/-- Sub at a key that a value has. -/
theorem sub_val {W : World} {a m n e : Nat} {came : Int} {D : AD} (h : Arr W a m n came D) (s : ByteArray) (hs : s.size ≤ 281474976710656) (hat : D.atKey (klS s) (.held nilP) = .held (ptrB e)) {key : ByteArray} {num kd : Int} {M : Nat} {T : ByteArray} (hE : Elt W e key num kd M T nilP) :
    Calls Tryz.prog 19 #[ptrB a, .string s] W fun e w' => e = .returned (.tuple #[nilP, .int .i64 80]) ∧ W = w' := by
  have c0 : W.cell? ⟨a, 0, none⟩ = some (.map (some m)) := h.row.cell 0
  have hl := look_run h.own (s := s) (by unfold maxLen; omega) hat
  have CK := Lib.hid (kind_val hE)
  clear h hE hat
  go_enter Tryz.func19, Tryz.ntmps19
  go_wp2_with fail
  refine (show Calls _ _ _ _ _ from CK.out).mono ?_
  rintro e w' ⟨rfl, rfl⟩
  go_wp2_with fail
  go_ret2
  exact ⟨rfl, rfl⟩
end Go.Proofs.YtnbagigbaceonaaGreatDoor

namespace Go.Proofs.YtnbagigbaceonaaGreatDoor
open Go.RowKit Go.Lib Go.Maps

/-- How much an element counts, whatever has turned since. -/
def Counts (W : World) (e : Nat) (t : Int) : Prop := (∃ key num kd M T, Elt W e key num kd M T nilP ∧ t = 1) ∨ ∃ key num kd M T sb, Elt W e key num kd M T (ptrB sb) ∧ ∀ W', Below W.heap.size W W' → Calls Tryz.prog 16 #[ptrB sb] W' fun e w' => e = .returned (.int .i64 t) ∧ Below W'.heap.size W' w'
theorem at_next_mem {W : World} {m n : Nat} {es : List (Lit × AD)} (h : W.ownsMap Tryz.prog 9 asR m n (.map es)) : es.Pairwise (fun p q => p.1 ≠ q.1) ∧ ∀ p ∈ es, WideAt.IsKeyLit p.1 := by
  obtain ⟨es', h1, h2, h3⟩ := h.entries law_s
  injection h1 with h1
  subst h1
  exact ⟨h2, h3⟩
theorem totL_bd (T : Lit → Int) (left : Lit → Bool) : ∀ {es : List (Lit × AD)}, (∀ p ∈ es, 0 ≤ T p.1 ∧ T p.1 ≤ 1000) → 0 ≤ totL T left es ∧ totL T left es ≤ 1000 * (es.length : Int) := by
  intro es
  induction es with
  | nil => intro _; exact ⟨Int.le_refl 0, Int.le_refl 0⟩
  | cons p es ih =>
    intro h
    obtain ⟨h1, h2⟩ := ih (fun q hq => h q (List.mem_cons_of_mem _ hq))
    obtain ⟨g1, g2⟩ := h p (List.mem_cons_self ..)
    have e : totL T left (p :: es) = (if left p.1 = true then 0 else T p.1) + totL T left es := by unfold totL; rw [List.map_cons, List.sum_cons]
    rw [e, List.length_cons]
    split <;> omega
set_option maxHeartbeats 1000000 in
theorem total_any {W : World} {a m n : Nat} {came : Int} {es : List (Lit × AD)} (h : Arr W a m n came (.map es)) (T : Lit → Int) (hT : ∀ p ∈ es, 0 ≤ T p.1 ∧ T p.1 ≤ 1000) (hlen : es.length ≤ 1000000) (hE : ∀ p ∈ es, ∃ e, p.2 = .held (ptrB e) ∧ Counts W e (T p.1)) :
    Calls Tryz.prog 16 #[ptrB a] W fun e w' => e = .returned (.int .i64 (totA T es)) ∧ Below W.heap.size W w' := by
  have CH := Lib.hid (held_any h)
  obtain ⟨hap, hkey⟩ := at_next_mem h.own
  have HO := Lib.hid h.own
  have hm : m < W.heap.size := h.own.lt
  have HE := Lib.hid hE
  have HTT := Lib.hid hT
  clear h hE hT
  go_enter Tryz.func16, Tryz.ntmps16
  go_wp2_with fail
  refine CH.out.mono ?_
  rintro e w' ⟨rfl, rfl⟩
  have hown := HO.out
  go_wp2_with (first
    | (at_range; refine wpList_range_own _ rfl _ 51 rfl 9 54 law_s Tryz.underlying51 _ m n _ rfl hown ?_; intro w0 hrg0 hg0 hs0)
    | go_in)
  go_frame
  have HA := Lib.hid hap
  have HK := Lib.hid hkey
  have hB0 : Below W.heap.size W w0 := ⟨hg0.os, hg0.tape, hg0.output, hg0.size, fun i hi => hg0.block i hi (by simp)⟩
  clear hap hkey hg0 hs0 hown CH
  go_loopw [3, 5] (fun t _ wr => ∃ (left : Lit → Bool) (cnt : Nat), t = .int .i64 (totL T left es) ∧ wr.ranges Tryz.prog 9 asR m W.heap.size n (.map es) left cnt ∧ Below W.heap.size W wr) (fun _ _ wr => wr.rangeLeft m W.heap.size)
  case atStart => exact ⟨_, _, as_vint (totL_has T HK.out).symm, hrg0, hB0⟩
  case round =>
    clear hrg0 hB0
    obtain ⟨left, cnt, rfl, hrg, hB⟩ := hrel
    go_wp2_with (first
      | (at_next; refine wpList_next_ranges _ rfl _ rfl 9 law_s asR (fun v : Value => v) (fun v : Value => v) (fun key _ _ => ⟨key, rfl⟩) (fun v _ _ => ⟨v, rfl⟩) m W.heap.size n _ _ _ rfl hrg ?_ ?_)
      | go_in)
    · intro _ hl0
      have e : totL T left es = totA T es := totL_none T hl0 es
      rw [e]
      go_wp2
      go_ret
      exact ⟨rfl, hB⟩
    · intro x c kl y ps w1 cnt1 hkeq hlx hy hat hrg1 hlt hg1 hs1 hen
      have hk : WideAt.IsKeyLit kl := law_s.key hkeq
      obtain ⟨q, hq, hq1, hq2⟩ := mem_of_at hk HA.out hat
      obtain ⟨el, he1, he2⟩ := HE.out q hq
      have hc : c = ptrB el := by
        unfold asR at hy
        simp only [Option.some.injEq, Prod.mk.injEq] at hy
        have h2 := hy.1.trans (hq2.symm.trans he1)
        injection h2
      subst hc
      have hst : totL T (fun z => left z && !z.sameKey kl) es = totL T left es + T kl := totL_strike T hlx HA.out HK.out ⟨q, hq, hq1⟩
      have hb1 := totL_bd T left HTT.out
      have hb2 := totL_bd T (fun z => left z && !z.sameKey kl) HTT.out
      rw [hst] at hb2
      have HST := Lib.hid hst
      have hB1 : Below W.heap.size W w1 := hB.grown hg1 hB.size (fun z e => by injection e with e; omega)
      have hle := hrg.left_eq
      have HL := Lib.hid hle
      rw [hq1] at he2
      have HRG := Lib.hid hrg1
      have HB1 := Lib.hid hB1
      have hlen2 : (es.length : Int) ≤ 1000000 := by omega
      obtain ⟨t, ht⟩ : ∃ t, T kl = t := ⟨_, rfl⟩
      obtain ⟨u, hu⟩ : ∃ u, totL T left es = u := ⟨_, rfl⟩
      rw [ht] at hb2 he2
      rw [hu] at hb1 hb2 ⊢
      have HT2 := Lib.hid ht
      have HU := Lib.hid hu
      clear hk hq hq1 hq2 he1 hy hst hat hkeq hlx hg1 hs1 hrg hrg1 hB hB1 hle ht hu
      rcases he2 with ⟨key, num, kd, M, S, hE, rfl⟩ | ⟨key, num, kd, M, S, sb, hE, hC⟩
      · have CK := Lib.hid (kind_val (hE.below HB1.out hE.lt))
        clear hE
        go_wp2_with fail
        refine (show Calls _ _ _ _ _ from CK.out).mono ?_
        rintro e w' ⟨rfl, rfl⟩
        go_wp2_with fail
        go_roundw
        case rel => exact ⟨_, _, as_vint (by rw [HST.out, HU.out, HT2.out]), HRG.out, HB1.out⟩
        case measure => rw [HRG.out.left_eq, HL.out]; omega
      · have hE1 := hE.below HB1.out hE.lt
        have CK := Lib.hid (kind_arr hE1)
        have CC := Lib.hid (hC _ HB1.out)
        obtain ⟨⟨_, _, _, _, _, q5⟩, _⟩ := hE1.six
        clear hE hE1 hC
        go_wp2_with fail
        refine (show Calls _ _ _ _ _ from CK.out).mono ?_
        rintro e w' ⟨rfl, rfl⟩
        go_wp2_with fail
        refine CC.out.mono ?_
        rintro e w2 ⟨rfl, h2⟩
        have HB2 := Lib.hid (HB1.out.trans (h2.mono HB1.out.size))
        have HRG2 := Lib.hid (HRG.out.kept (below_grown h2) (by simp) (by simp))
        clear q5 h2 hen
        go_wp2_with fail
        go_roundw
        case rel => exact ⟨_, _, as_vint (by rw [HST.out, HU.out, HT2.out]), HRG2.out, HB2.out⟩
        case measure => rw [HRG2.out.left_eq, HL.out]; omega
end Go.Proofs.YtnbagigbaceonaaGreatDoor

namespace Go.Proofs.YtnbagigbaceonaaGreatDoor
open Go.RowKit Go.Lib Go.Maps

/-- The entries, told by their elements' blocks. -/
def esOf (E : List (Lit × Nat)) : List (Lit × AD) := E.map fun p => (p.1, .held (ptrB p.2))
/-- What has come already. -/
def seenE (left : Lit → Bool) (E : List (Lit × Nat)) : List Nat := (E.filter fun p => !left p.1).map (·.2)
theorem esOf_pair {E : List (Lit × Nat)} (h : (esOf E).Pairwise (fun p q => p.1 ≠ q.1)) : E.Pairwise (fun p q => p.1 ≠ q.1) := by
  unfold esOf at h
  rw [List.pairwise_map] at h
  exact h
theorem esOf_key {E : List (Lit × Nat)} (h : ∀ p ∈ esOf E, WideAt.IsKeyLit p.1) : ∀ p ∈ E, WideAt.IsKeyLit p.1 := fun p hp => h (p.1, .held (ptrB p.2)) (List.mem_map.2 ⟨p, hp, rfl⟩)
theorem seen_has {E : List (Lit × Nat)} (hk : ∀ p ∈ E, WideAt.IsKeyLit p.1) : seenE (Maps.has (.map (esOf E) : AD)) E = [] := by
  unfold seenE
  rw [List.filter_eq_nil_iff.2, List.map_nil]
  intro p hp
  have : Maps.has (.map (esOf E) : AD) p.1 = true := List.any_eq_true.2 ⟨(p.1, .held (ptrB p.2)), List.mem_map.2 ⟨p, hp, rfl⟩, WideAt.sameKey_self (hk p hp)⟩
  rw [this]
  simp
theorem seen_all {left : Lit → Bool} (h : ∀ kl, left kl = false) (E : List (Lit × Nat)) : seenE left E = E.map (·.2) := by
  unfold seenE
  rw [List.filter_eq_self.2]
  intro p _
  rw [h p.1]
  rfl
theorem seen_strike {left : Lit → Bool} {kl : Lit} {e : Nat} (hl : left kl = true) : ∀ {E : List (Lit × Nat)}, E.Pairwise (fun p q => p.1 ≠ q.1) → (∀ p ∈ E, WideAt.IsKeyLit p.1) → (kl, e) ∈ E → (seenE left E ++ [e]).Perm (seenE (fun z => left z && !z.sameKey kl) E) := by
  have away : ∀ (E : List (Lit × Nat)), (∀ p ∈ E, p.1 ≠ kl) → seenE (fun z => left z && !z.sameKey kl) E = seenE left E := by
    intro E h
    unfold seenE
    congr 1
    apply List.filter_congr
    intro p hp
    have : p.1.sameKey kl = false := by
      cases q : p.1.sameKey kl with
      | false => rfl
      | true => exact absurd (WideAt.sameKey_eq q) (h p hp)
    show (!(left p.1 && !p.1.sameKey kl)) = _
    rw [this]
    simp
  intro E
  induction E with
  | nil => intro _ _ h; cases h
  | cons p E ih =>
    intro hp hk hex
    have hp1 := (List.pairwise_cons.1 hp).1
    have hp2 := (List.pairwise_cons.1 hp).2
    have cons : ∀ l : Lit → Bool, seenE l (p :: E) = (if l p.1 = true then [] else [p.2]) ++ seenE l E := fun l => by
      unfold seenE
      rw [List.filter_cons]
      cases l p.1 <;> simp
    rw [cons, cons]
    by_cases q : p.1 = kl
    · have hpe : p = (kl, e) := by
        rcases List.mem_cons.1 hex with h | h
        · exact h.symm
        · exact absurd q (hp1 _ h)
      subst hpe
      rw [away E (fun q hq => fun h => hp1 q hq h.symm), if_pos hl, if_neg (by rw [WideAt.sameKey_self (hk _ (List.mem_cons_self ..))]; simp), List.nil_append]
      exact List.perm_append_comm
    · have hne : p.1.sameKey kl = false := by
        cases r : p.1.sameKey kl with
        | false => rfl
        | true => exact absurd (WideAt.sameKey_eq r) q
      have hmem : (kl, e) ∈ E := by
        rcases List.mem_cons.1 hex with h | h
        · exact absurd (by rw [← h]) q
        · exact h
      rw [show (left p.1 && !p.1.sameKey kl) = left p.1 by rw [hne]; simp, List.append_assoc]
      exact List.Perm.append_left _ (ih hp2 (fun q hq => hk q (List.mem_cons_of_mem _ hq)) hmem)
theorem seen_len (left : Lit → Bool) (E : List (Lit × Nat)) : (seenE left E).length ≤ E.length := by
  unfold seenE
  rw [List.length_map]
  exact List.length_filter_le _ _
set_option maxRecDepth 100000 in
set_option maxHeartbeats 1000000 in
theorem valuesE_stops (n : Nat) (hn : 1 ≤ n) (B m nn : Nat) (E : List (Lit × Nat)) (w : World) (h1 : w.cell? ⟨B, 0, none⟩ = some (.map (some m))) (hown : w.ownsMap Tryz.prog 9 asR m nn (.map (esOf E))) :
    SeqStopsK Fence.wide n Tryz.prog 39 #[.pointer (some ⟨B, 0, none⟩)] (fun e : Nat => #[ptrB e]) KeepsWalks (fun xs => xs.Perm (E.map (·.2))) (fun _ => True) (E.length + 1) w := fun l J Jx W hW hJ hJx hY h0 => by
  have hlt := hown.lt
  have c1 : W.cell? ⟨B, 0, none⟩ = some (.map (some m)) := (hW.cell (p := ⟨B, 0, none⟩) (World.block_lt_of_cell? w _ h1)).trans h1
  have hown' : W.ownsMap Tryz.prog 9 asR m nn (.map (esOf E)) := by
    obtain ⟨es, clock, hb, Ft, hs, hD⟩ := hown
    exact ⟨es, clock, (hW.block m hlt).trans hb, Ft, hs, hD⟩
  obtain ⟨hap', hkey'⟩ := at_next_mem hown'
  have HA := Lib.hid (esOf_pair hap')
  have HK := Lib.hid (esOf_key hkey')
  have HA2 := Lib.hid hap'
  clear h1 hown hlt hap' hkey'
  refine callsIn_of_wp Tryz.func39 rfl trivial ?_ rfl
  simp only [Tryz.ntmps39, List.size_toArray, List.length_cons, List.length_nil, Nat.reduceAdd, Nat.reduceSub, Array.replicate_succ, Array.replicate_zero, List.push_toArray, List.append_toArray, List.nil_append, List.cons_append]
  gi_wp2_with (first
    | (gi_at_range; refine wpListIn_range_own _ rfl _ 51 rfl 9 54 law_s Tryz.underlying51 _ m nn _ rfl hown' ?_; intro w0 hrg0 hg0 hs0)
    | gi_in)
  try go_frame
  clear hown' hs0
  gi_loopw [4] (fun _ wr => ∃ (left : Lit → Bool) (cnt : Nat) (xs : List Nat), wr.ranges Tryz.prog 9 asR m W.heap.size nn (.map (esOf E)) left cnt ∧ xs.Perm (seenE left E) ∧ J xs wr) (fun _ wr => wr.rangeLeft m W.heap.size)
  case atStart => exact ⟨_, _, [], hrg0, by rw [seen_has HK.out], hJ [] W w0 none h0 hg0 (fun r e => by cases e)⟩
  case round =>
    clear hrg0 hg0
    obtain ⟨left, cnt, xs, hrg, hP, hJs⟩ := hrel
    gi_wp2_with (first
      | (gi_at_next; refine wpListIn_next_ranges _ rfl _ rfl 9 law_s asR (fun v : Value => v) (fun v : Value => v) (fun key _ _ => ⟨key, rfl⟩) (fun v _ _ => ⟨v, rfl⟩) m W.heap.size nn _ _ _ rfl hrg ?_ ?_)
      | gi_in)
    · intro _ hl0
      have HX := Lib.hid (show xs.Perm (E.map (·.2)) from by rw [← seen_all hl0 E]; exact hP)
      have HJ := Lib.hid hJs
      clear hP hJs hJ hJx hY h0 hl0
      gi_wp2
      go_end0
      exact ⟨⟨_, rfl⟩, .inl ⟨xs, HX.out, HJ.out⟩⟩
    · intro x c kl y ps w2 cnt2 hkeq hlx hy hat hrg2 hlt hg2 hs2 hen
      have hk : WideAt.IsKeyLit kl := law_s.key hkeq
      obtain ⟨q, hq, hq1, hq2⟩ := mem_of_at hk HA2.out hat
      obtain ⟨⟨kl', el⟩, hp, hpq⟩ := List.mem_map.1 hq
      rw [← hpq] at hq1 hq2
      have e1 : kl' = kl := hq1
      subst e1
      have hc : c = ptrB el := by
        unfold asR at hy
        simp only [Option.some.injEq, Prod.mk.injEq] at hy
        have h2 := hy.1.trans hq2.symm
        injection h2
      subst hc
      have hJ2 : J xs w2 := hJ _ wr w2 (some W.heap.size) hJs hg2 (fun r e => by cases e; exact ⟨Nat.le_refl _, hrg.iter_walk⟩)
      have hlen : xs.length < E.length + 1 := by have := hP.length_eq; have := seen_len left E; omega
      have HP2 := Lib.hid (show (xs ++ [el]).Perm (seenE (fun z => left z && !z.sameKey kl') E) from (hP.append_right [el]).trans (seen_strike hlx HA.out HK.out hp))
      obtain ⟨fn, tmps, assign, body, hy2, hR⟩ := hY xs el w2 hJ2 hlen
      have HL := Lib.hid hrg.left_eq
      have HLT := Lib.hid hlt
      clear hs2 hk hq hq1 hq2 hy hat hkeq hlx hp hP hJs hY h0 hJx hpq
      gi_wp2
      refine hR.mono ?_
      rintro e W3 (⟨rfl, hJ3, hk3⟩ | ⟨rfl, hJx3⟩)
      · gi_wp2
        have hrg3 := hrg2.of_walks hk3
        go_roundw
        case rel => exact ⟨_, cnt2, xs ++ [el], hrg3, HP2.out, hJ3⟩
        case measure => rw [hrg3.left_eq, HL.out]; exact HLT.out
      · gi_wp2
        refine bodyPost_ret (results_none rfl _ _ _) rfl ?_
        exact ⟨⟨_, rfl⟩, .inr ⟨_, trivial, hJx3⟩⟩
end Go.Proofs.YtnbagigbaceonaaGreatDoor

namespace Go.Proofs.YtnbagigbaceonaaGreatDoor
open Go.RowKit Go.Lib Go.Maps
attribute [local go_sem] Oper.semAt_some

theorem info_eltp : (Tryz.prog.info? 54).map (fun i => (i.zero, i.size, i.bytes)) = some (some (.pointer none), 1, 8) := by kernel_rfl
theorem as_row_new (w : World) (cs : Array Value) (t : TypeId) : ∀ j u, cs.toList[j]? = some u → (w.alloc (.cells cs t)).cell? ((⟨w.heap.size, 0, none⟩ : Addr).add j) = some u := fun j u hu => by
  have hb : Blk (w.alloc (.cells cs t)) w.heap.size cs t := Blk.new w cs t
  rw [show ((⟨w.heap.size, 0, none⟩ : Addr).add j) = ⟨w.heap.size, j, none⟩ by rw [Addr.add_lit, Nat.zero_add], hb.cell]
  rw [← Array.getElem?_toList]
  exact hu
theorem as_own_slice {w : World} {n : Nat} {t : TypeId} {z : Nat} {v : Value} {k : Nat} {xs : List Value} (h : w.ownsRow n t z v k xs) : ∃ A cap, v = .slice A k cap := by
  rcases h.2 with ⟨rfl, h0⟩ | ⟨g, cap, cur, rfl, _⟩
  · exact ⟨none, 0, by rw [h0]⟩
  · exact ⟨_, _, rfl⟩
/-- Elements as values. -/
def asPtrs (xs : List Nat) : List Value := xs.map ptrB
theorem as_own_grown {w w' : World} {n : Nat} {t : TypeId} {z : Nat} {v : Value} {k : Nat} {xs : List Value} {r : Option Nat} (h : w.ownsRow n t z v k xs) (hg : w.grownBy w' r) (hr : ∀ g cur, v.ownBlock = some g → w.heap[g]? = some (.cells cur t (0, 0)) → some g ≠ r) : w'.ownsRow n t z v k xs := by
  refine ⟨h.1, ?_⟩
  rcases h.2 with h0 | ⟨g, cap, cur, e, hn, hr', hz⟩
  · exact .inl h0
  · exact .inr ⟨g, cap, cur, e, hn, (hg.block g (Array.getElem?_eq_some_iff.1 hr').1 (hr g cur (by rw [e]; rfl) hr')).trans hr', hz⟩
theorem as_own_not {w : World} {t : TypeId} {v : Value} {r : Option Nat} (hr : ∀ j, r = some j → ∃ o, w.heap[j]? = some o ∧ o.isCells = false) : ∀ g cur, v.ownBlock = some g → w.heap[g]? = some (.cells cur t (0, 0)) → some g ≠ r := fun g cur _ hc e => by
  obtain ⟨o, ho, h2⟩ := hr g e.symm
  rw [hc] at ho
  cases ho
  cases h2
set_option maxRecDepth 100000 in
set_option maxHeartbeats 2000000 in
theorem appendE_in (B m nn : Nat) (E : List (Lit × Nat)) (w : World) (h1 : w.cell? ⟨B, 0, none⟩ = some (.map (some m))) (hown : w.ownsMap Tryz.prog 9 asR m nn (.map (esOf E))) (hE : E.length ≤ 1000000) :
    CallsIn Fence.wide 10 Tryz.prog 51 #[.slice none 0 0, .func (.func 39) #[] #[.pointer (some ⟨B, 0, none⟩)]] w fun e w' => ∃ v xs, e = .returned v ∧ xs.Perm (E.map (·.2)) ∧ (w'.ownsRow w.heap.size 54 1 v xs.length (asPtrs xs) ∧ (xs = [] → v = .slice none 0 0)) ∧ Below w.heap.size w w' := by
  have x0 := Boxed.new w 68 (.slice none 0 0)
  have hb0 := (Below.refl w.heap.size w).alloc (Nat.le_refl _) (.cells #[.slice none 0 0] 68)
  have c0 : (w.alloc (.cells #[.slice none 0 0] 68)).cell? ⟨B, 0, none⟩ = some (.map (some m)) := (hb0.cell (p := ⟨B, 0, none⟩) (World.block_lt_of_cell? w _ h1)).trans h1
  have hown0 : (w.alloc (.cells #[.slice none 0 0] 68)).ownsMap Tryz.prog 9 asR m nn (.map (esOf E)) := by
    have hlt := hown.lt
    obtain ⟨es, clock, hb, Ft, hs, hD⟩ := hown
    exact ⟨es, clock, (hb0.block m hlt).trans hb, Ft, hs, hD⟩
  obtain ⟨i0, hi, hz0, hz1, hz2⟩ := info_parts info_eltp
  have HI := Lib.hid (And.intro hi (And.intro hz0 (And.intro hz1 hz2)))
  have SV := Lib.hid (valuesE_stops 9 (by omega) B m nn E _ c0 hown0)
  have X0 := Lib.hid x0
  have HB0 := Lib.hid hb0
  clear x0 c0 hb0 h1 hown hown0 hi hz0 hz1 hz2
  refine callsIn_of_wp_marks Tryz.func51 rfl trivial ?_ rfl
  simp only [Tryz.ntmps51, List.size_toArray, List.length_cons, List.length_nil, Nat.reduceAdd, Nat.reduceSub, Array.replicate_succ, Array.replicate_zero, List.push_toArray, List.append_toArray, List.nil_append, List.cons_append]
  gi_wp2
  refine wpIn_rangeFunc_ownF rfl (by omega) (gf := 39) (lb := #[.pointer (some ⟨B, 0, none⟩)]) rfl trivial (enters_of Tryz.func39 (by kernel_rfl) rfl)
    SV.out (fun h k => walksK_t h k) (fun W l o o' hl h hc hw => walksK_b (w := w.alloc (.cells #[.slice none 0 0] 68)) W l o o' hl h hc hw) (Below.refl _ _) (fun _ => rfl)
    (fun xs W => (∃ v, Boxed W w.heap.size 68 v ∧ W.ownsRow w.heap.size 54 1 v xs.length (asPtrs xs) ∧ (xs = [] → v = .slice none 0 0)) ∧ Below w.heap.size w W) (fun _ _ _ => False) ?hI ?hIx ⟨⟨_, X0.out, World.ownsRow_nil _ _ _ _, fun _ => rfl⟩, HB0.out⟩ (fun x => { tmps := #[.slice none 0 0, (.func (.func 39) #[] #[.pointer (some ⟨B, 0, none⟩)]), .pointer (some ⟨w.heap.size, 0, none⟩), undef, .slice none 0 0, ptrB x, (.func (.func 39) #[] #[.pointer (some ⟨B, 0, none⟩)]), ptrB x, undef, undef, undef, undef, undef], defers := [] }) ?assign ?body ?done ?stop
  case hI =>
    refine OwnFrom.and (Own.from (fun st A C row hs hg hr => ?_) _) (ownFrom_below (Nat.le_refl _) (by simp))
    obtain ⟨v, hbx, how, hnl⟩ := hs
    refine ⟨v, hbx.kept hg (fun e => ?_), as_own_grown how hg (as_own_not (v := v) hr), hnl⟩
    obtain ⟨o, ho, hc⟩ := hr _ e.symm
    rw [show A.heap[w.heap.size]? = _ from hbx] at ho
    cases ho
    cases hc
  case hIx => exact fun _ _ _ _ _ hs _ _ => hs
  case assign =>
    intro l k W K hK
    gi_wp2
    exact hK
  case body =>
    rintro l pre x W ⟨⟨v, hbx, how, _⟩, hB⟩ hlen
    have hB2 := hB.size
    have c := hbx.cell
    have f := hbx.frozen
    have HBX := Lib.hid hbx
    have HOW := Lib.hid how
    have HB := Lib.hid hB
    have hpl : (asPtrs pre).length = pre.length := by unfold asPtrs; rw [List.length_map]
    clear hbx how hB SV X0 HB0
    gi_wp2_with (gi_at_builtin; refine wpListIn_append_own_at _ rfl _ _ 68 rfl w.heap.size 54 i0 _ 1 8 Tryz.underlying68 HI.out.1 HI.out.2.1 HI.out.2.2.1 HI.out.2.2.2 rfl (by decide) v pre.length (asPtrs pre) rfl (HOW.out.alloc _) ⟨W.heap.size, 0, none⟩ 1 1 [ptrB x] rfl rfl (as_row_new W #[ptrB x] 54) (by simp [Value.oneCell']) (by unfold maxLen; omega) (by omega) (by simp; omega) ?_)
    rintro v' w4 ho2 hgr _ hvv
    obtain ⟨A', cap', rfl⟩ := as_own_slice ho2
    obtain ⟨q1, q2, q3, q4, q5⟩ := Boxed.appended HBX.out (by decide) HOW.out hB2 (Nat.le_refl _) ho2 hgr
    have c4 := q1.cell
    have f4 := q1.frozen
    have HQ := Lib.hid (And.intro q2 (And.intro q3 (And.intro q4 q5)))
    clear q1 q2 q3 q4 q5 ho2 hgr hvv c f
    gi_wp2
    exact ⟨HQ.out.2.2.1, HQ.out.2.2.1.walks, ⟨_, HQ.out.1, by rw [List.length_append, List.length_singleton, asPtrs, List.map_append]; exact HQ.out.2.1, fun h => absurd h (by simp)⟩, HB.out.trans HQ.out.2.2.2⟩
  case done =>
    rintro D xs W hD hS ⟨⟨v, hbx, how, hnl⟩, hB⟩ hK
    have c := hbx.cell
    have HB := Lib.hid hB
    have HOW := Lib.hid how
    have hD2 : w.heap.size ≤ D := by simp at hD; omega
    clear hB hbx how SV X0 HB0 hD
    gi_wp2
    refine ⟨by simp, .inl ⟨_, _, rfl, run_takeDeferred hK, ?_⟩⟩
    exact ⟨_, results_tmp rfl _ _ _, v, xs, rfl, hS, ⟨as_own_grown HOW.out (grownBy_putObj' W D (.deferred none)) (as_own_not (v := v) (fun j e => by cases e; exact ⟨_, hK, rfl⟩)), hnl⟩, HB.out.trans (belowK_b (w := w) (Nat.le_refl _) W D _ _ hD2 hK rfl rfl)⟩
  case stop =>
    rintro D c pre W _ _ h
    exact h.elim
end Go.Proofs.YtnbagigbaceonaaGreatDoor

namespace Go.Proofs.YtnbagigbaceonaaGreatDoor
open Go.RowKit Go.Lib Go.Maps

set_option maxRecDepth 100000 in
theorem collectE_any (B m nn : Nat) (E : List (Lit × Nat)) (w : World) (h1 : w.cell? ⟨B, 0, none⟩ = some (.map (some m))) (hown : w.ownsMap Tryz.prog 9 asR m nn (.map (esOf E))) (hE : E.length ≤ 1000000) :
    Calls Tryz.prog 37 #[.func (.func 39) #[] #[.pointer (some ⟨B, 0, none⟩)]] w fun e w' => ∃ v xs, e = .returned v ∧ xs.Perm (E.map (·.2)) ∧ (w'.ownsRow w.heap.size 54 1 v xs.length (asPtrs xs) ∧ (xs = [] → v = .slice none 0 0)) ∧ Below w.heap.size w w' := by
  have CA := Lib.hid (callsIn_wide.1 (appendE_in B m nn E w h1 hown hE))
  clear h1 hown hE
  go_enter Tryz.func37, Tryz.ntmps37
  go_wp2_with fail
  refine CA.out.mono ?_
  rintro e w' ⟨v, xs, rfl, hP, ⟨ho, hnl⟩, hb⟩
  obtain ⟨A, cap, rfl⟩ := as_own_slice ho
  have HF := Lib.hid (And.intro hP (And.intro (And.intro ho hnl) hb))
  clear hP ho hnl hb CA
  go_wp2_with fail
  go_ret
  exact ⟨_, xs, rfl, HF.out.1, HF.out.2.1, HF.out.2.2⟩
theorem as_compare (x y : Int) (W : World) : Calls Tryz.prog 40 #[.int .i64 x, .int .i64 y] W fun e w' => e = .returned (.int .i64 (if x < y then -1 else if y < x then 1 else 0)) ∧ W = w' := by
  have CN : ∀ (x : Int) (W : World), Calls Tryz.prog 54 #[.int .i64 x] W fun e w' => e = .returned (.bool false) ∧ W = w' := fun x W => by
    go_enter Tryz.func54, Tryz.ntmps54
    go_wp2_with fail
    go_ret
    exact ⟨by simp, rfl⟩
  have CN := Lib.hid CN
  by_cases h1 : x < y
  · rw [if_pos h1]
    go_enter Tryz.func40, Tryz.ntmps40
    go_wp2_with (go_at_call 54; refine (CN.out _ _).mono ?_; rintro e w' ⟨rfl, rfl⟩)
    go_ret
    exact ⟨rfl, rfl⟩
  · rw [if_neg h1]
    by_cases h2 : y < x
    · rw [if_pos h2]
      go_enter Tryz.func40, Tryz.ntmps40
      go_wp2_with (go_at_call 54; refine (CN.out _ _).mono ?_; rintro e w' ⟨rfl, rfl⟩)
      go_ret
      exact ⟨rfl, rfl⟩
    · rw [if_neg h2]
      go_enter Tryz.func40, Tryz.ntmps40
      go_wp2_with (go_at_call 54; refine (CN.out _ _).mono ?_; rintro e w' ⟨rfl, rfl⟩)
      go_ret
      exact ⟨rfl, rfl⟩
def cmpI (x y : Int) : Int := if x < y then -1 else if y < x then 1 else 0
set_option maxHeartbeats 1000000 in
theorem eltCompare_any {W : World} {a b : Nat} {na nb : Int} (ha : W.cell? ⟨a, 1, none⟩ = some (.int .i64 na)) (hb : W.cell? ⟨b, 1, none⟩ = some (.int .i64 nb)) :
    Calls Tryz.prog 30 #[ptrB a, ptrB b] W fun e w' => e = .returned (.int .i64 (cmpI na nb)) ∧ ∃ q, w' = W.drewN q := by
  have CC := Lib.hid (fun w => as_compare na nb w)
  obtain ⟨k, hk⟩ : ∃ k, cmpI na nb = k := ⟨_, rfl⟩
  have CC := Lib.hid (fun w => show Calls Tryz.prog 40 #[.int .i64 na, .int .i64 nb] w (fun e w' => e = .returned (.int .i64 k) ∧ w' = w) from (show Calls Tryz.prog 40 #[.int .i64 na, .int .i64 nb] w (fun e w' => e = .returned (.int .i64 k) ∧ w = w') from hk ▸ CC.out w).mono fun _ _ h => ⟨h.1, h.2.symm⟩)
  rw [hk]
  clear hk
  go_enter Tryz.func30, Tryz.ntmps30
  go_wp2_with fail
  go_quiet ((go_at_call 40; exact Calls.quiet_of_same (CC.out _)))
  go_wp2_with fail
  go_ret
  exact ⟨rfl, _, rfl⟩
end Go.Proofs.YtnbagigbaceonaaGreatDoor

namespace Go.Proofs.YtnbagigbaceonaaGreatDoor
open Go.RowKit Go.Lib Go.Maps Go.Sort

set_option maxHeartbeats 1000000 in
theorem sortE_any {W : World} {g cap : Nat} {xs : List Nat} {num : Nat → Int} (hc : ∀ j e, xs[j]? = some e → W.cell? ⟨g, j, none⟩ = some (ptrB e) ∧ W.frozen? ⟨g, j, none⟩ = false) (hne : xs ≠ []) (hE : ∀ e ∈ xs, W.cell? ⟨e, 1, none⟩ = some (.int .i64 (num e)) ∧ e < W.heap.size ∧ e ≠ g) (hg : g < W.heap.size) (hl : xs.length ≤ 1000000) :
    Calls Tryz.prog 38 #[.slice (some ⟨g, 0, none⟩) xs.length cap, .func (.func 30) #[] #[]] W fun e w' => e = .returned (.tuple #[]) ∧ ∃ ys : List Nat, ys.Perm xs ∧ ys.Pairwise (fun a b => num a ≤ num b) ∧ (∀ j e, ys[j]? = some e → w'.cell? ⟨g, j, none⟩ = some (ptrB e) ∧ w'.frozen? ⟨g, j, none⟩ = false) ∧ Off2 g g W w' := by
  let α := {e : Nat // W.cell? ⟨e, 1, none⟩ = some (.int .i64 (num e)) ∧ e < W.heap.size ∧ e ≠ g}
  obtain ⟨e0, he0⟩ := List.exists_mem_of_ne_nil xs hne
  haveI : Inhabited α := ⟨⟨e0, hE e0 he0⟩⟩
  let l : List α := xs.attach.map fun e => ⟨e.1, hE e.1 e.2⟩
  have hlv : l.map (·.1) = xs := by
    show (xs.attach.map fun e => (⟨e.1, hE e.1 e.2⟩ : α)).map (·.1) = xs
    rw [List.map_map]
    exact List.attach_map_subtype_val xs
  have hll : l.length = xs.length := by
    have := congrArg List.length hlv
    rwa [List.length_map] at this
  have hH : Holds (fun e : α => ptrB e.1) W g 0 l.toArray := fun j hj => by
    have hj2 : j < l.length := by simpa using hj
    have hx : xs[j]? = some (l[j]).1 := by
      rw [← hlv, List.getElem?_map, List.getElem?_eq_getElem hj2]
      rfl
    have := hc j _ hx
    rw [Nat.zero_add]
    rw [getElem!_pos l.toArray j (by simpa using hj2)]
    simpa using this
  have eg : ∀ args w, (callFunc 30 args).run Tryz.prog w = .ok (.enter 30 args) w := enters_of Tryz.func30 (by kernel_rfl) rfl
  have lt : ∀ x y : α, Go.Proofs.ltOf (fun x y : α => cmpI (num x.1) (num y.1)) x y = decide (num x.1 < num y.1) := fun x y => by
    unfold Go.Proofs.ltOf cmpI
    by_cases h1 : num x.1 < num y.1
    · simp [h1]
    · by_cases h2 : num y.1 < num x.1 <;> simp [h1, h2]
  have hO : SWO (Go.Proofs.ltOf (fun x y : α => cmpI (num x.1) (num y.1))) :=
    { irrefl := fun x => by rw [lt]; simp
      trans := fun x y z h1 h2 => by rw [lt] at *; simp at *; omega
      ntrans := fun x y z h1 h2 => by rw [lt] at *; simp at *; omega }
  have hcmp : CmpReads Tryz.prog 30 #[] (fun e : α => ptrB e.1) (fun x y : α => cmpI (num x.1) (num y.1)) g 0 l.toArray.size W := fun m os dk _ x y => by
    have key : ∀ z : α, (sortWorld (fun e : α => ptrB e.1) W g 0 m dk os).cell? ⟨z.1, 1, none⟩ = some (.int .i64 (num z.1)) := fun z => by
      refine (World.cell?_of_block (a := ⟨z.1, 1, none⟩) ?_).trans z.2.1
      show (sortWorld (fun e : α => ptrB e.1) W g 0 m dk os).heap[z.1]? = W.heap[z.1]?
      unfold sortWorld
      rw [heap_grow_old _ _ (by simpa [putRow, mapBlock, Sort.ahead] using z.2.2.1)]
      have : g ≠ z.1 := fun e => z.2.2.2 e.symm
      simp [putRow, mapBlock, Sort.ahead, Array.getElem?_modify, this]
    exact eltCompare_any (key x) (key y)
  have hcon := Any.slices_SortFunc Tryz.sl_sortp (fun e : α => ptrB e.1) (fun _ => rfl) (fun x y : α => cmpI (num x.1) (num y.1)) hO 30 #[] g 0 cap l.toArray W eg hcmp.lays hH hg (by simp; omega)
  have hs : l.toArray.size = xs.length := by simp [hll]
  rw [hs] at hcon
  refine (show Calls _ _ _ _ _ from hcon).mono ?_
  rintro e w' ⟨he, d', n, os, hp, hso, rfl⟩
  obtain ⟨p1, p2, p3⟩ := hp
  have hz : d'.size = xs.length := by rw [p1, hs]
  have e1 : d'.extract 0 xs.length = d' := by rw [← hz]; simp
  have e2 : l.toArray.extract 0 xs.length = l.toArray := by rw [← hll]; simp
  rw [e1, e2] at p3
  have hH2 := holds_putRow (fun e : α => ptrB e.1) (Sort.ahead W n) g 0 l.toArray d' hH (by rw [hz, hs])
  have hH3 := holds_grow (fun e : α => ptrB e.1) _ os g 0 d' (by rw [show (putRow (fun e : α => ptrB e.1) (Sort.ahead W n) g 0 d').heap.size = W.heap.size from by simp [putRow, mapBlock, Sort.ahead]]; exact hg) hH2
  refine ⟨he, d'.toList.map (·.1), ?_, ?_, ?_, ?_⟩
  · rw [← hlv]
    exact List.Perm.map _ (by simpa using p3)
  · rw [List.pairwise_map, List.pairwise_iff_getElem]
    intro i j hi hj hij
    have hj' : j < d'.size := by simpa using hj
    have := hso i j (Nat.zero_le _) hij (by omega)
    rw [lt, decide_eq_false_iff_not, getElem!_pos d' j hj', getElem!_pos d' i (by omega)] at this
    simp only [Array.getElem_toList]
    omega
  · intro j e hj
    rw [List.getElem?_map] at hj
    have hj' : j < d'.size := by
      rcases Nat.lt_or_ge j d'.size with h | h
      · exact h
      · rw [List.getElem?_eq_none (by simpa using h)] at hj
        cases hj
    have h3 := hH3 j hj'
    rw [Nat.zero_add, getElem!_pos d' j hj'] at h3
    rw [List.getElem?_eq_getElem (by simpa using hj')] at hj
    have : (d'[j]).1 = e := by simpa using hj
    rw [← this]
    exact h3
  · refine ⟨rfl, rfl, rfl, by simp [sortWorld, putRow, mapBlock, Sort.ahead], fun k hk hne _ => ?_⟩
    unfold sortWorld
    rw [heap_grow_old _ _ (by simpa [putRow, mapBlock, Sort.ahead] using hk)]
    have : g ≠ k := fun e => hne e.symm
    simp [putRow, mapBlock, Sort.ahead, Array.getElem?_modify, this]
end Go.Proofs.YtnbagigbaceonaaGreatDoor

namespace Go.Proofs.YtnbagigbaceonaaGreatDoor

structure Ord (lt : Nat → Nat → Bool) : Prop where
  asym : ∀ a b, lt a b = true → lt b a = false
  total : ∀ a b, a ≠ b → lt a b = false → lt b a = true
  trans : ∀ a b c, lt a b = true → lt b c = true → lt a c = true
theorem Ord.irr {lt : Nat → Nat → Bool} (o : Ord lt) (a : Nat) : lt a a = false := by
  cases h : lt a a with
  | false => rfl
  | true => have := o.asym a a h; rw [h] at this; cases this
theorem Ord.ntrans {lt : Nat → Nat → Bool} (o : Ord lt) {a b c : Nat} (h1 : lt a b = false) (h2 : lt b c = false) : lt a c = false := by
  by_cases e1 : a = b
  · rw [e1]; exact h2
  · by_cases e2 : b = c
    · rw [← e2]; exact h1
    · exact o.asym c a (o.trans c b a (o.total b c e2 h2) (o.total a b e1 h1))
/-- Two places change what they hold. -/
def swp (f : Nat → Nat) (i j : Nat) : Nat → Nat := fun k => if k = i then f j else if k = j then f i else f k
theorem swp_i (f : Nat → Nat) (i j : Nat) : swp f i j i = f j := if_pos rfl
theorem swp_j (f : Nat → Nat) (i j : Nat) : swp f i j j = f i := by
  unfold swp
  by_cases h : j = i
  · rw [if_pos h, h]
  · rw [if_neg h, if_pos rfl]
theorem swp_o (f : Nat → Nat) {i j k : Nat} (h1 : k ≠ i) (h2 : k ≠ j) : swp f i j k = f k := by
  unfold swp
  rw [if_neg h1, if_neg h2]
/-- The first n places hold just the numbers of S, each once. -/
structure Hold (f : Nat → Nat) (n : Nat) (S : Nat → Prop) : Prop where
  inj : ∀ i j, i < n → j < n → f i = f j → i = j
  on : ∀ a, S a ↔ ∃ i, i < n ∧ f i = a
theorem Hold.swp {f : Nat → Nat} {n i j : Nat} {S : Nat → Prop} (h : Hold f n S) (hi : i < n) (hj : j < n) : Hold (swp f i j) n S := by
  have key : ∀ k, k < n → ∃ q, q < n ∧ Go.Proofs.YtnbagigbaceonaaGreatDoor.swp f i j k = f q ∧ Go.Proofs.YtnbagigbaceonaaGreatDoor.swp f i j q = f k := fun k hk => by
    by_cases h1 : k = i
    · subst h1; exact ⟨j, hj, swp_i _ _ _, swp_j _ _ _⟩
    · by_cases h2 : k = j
      · subst h2; exact ⟨i, hi, swp_j _ _ _, swp_i _ _ _⟩
      · exact ⟨k, hk, swp_o _ h1 h2, swp_o _ h1 h2⟩
  refine ⟨fun a b ha hb e => ?_, fun a => ?_⟩
  · obtain ⟨p, hp, e1, e2⟩ := key a ha
    obtain ⟨q, hq, e3, e4⟩ := key b hb
    rw [e1, e3] at e
    have e5 := h.inj p q hp hq e
    subst e5
    rw [e2] at e4
    exact h.inj a b ha hb e4
  · rw [h.on]
    constructor
    · rintro ⟨k, hk, rfl⟩
      obtain ⟨q, hq, _, e2⟩ := key k hk
      exact ⟨q, hq, e2⟩
    · rintro ⟨k, hk, rfl⟩
      obtain ⟨q, hq, e1, _⟩ := key k hk
      exact ⟨q, hq, e1.symm⟩
theorem Hold.push {f f' : Nat → Nat} {n x : Nat} {S : Nat → Prop} (h : Hold f n S) (hf : ∀ k, k < n → f' k = f k) (hx : f' n = x) (hn : ¬ S x) : Hold f' (n + 1) (fun a => S a ∨ a = x) := by
  have no : ∀ k, k < n → f k ≠ x := fun k hk e => hn ((h.on x).2 ⟨k, hk, e⟩)
  refine ⟨fun a b ha hb e => ?_, fun a => ?_⟩
  · by_cases h1 : a = n
    · by_cases h2 : b = n
      · rw [h1, h2]
      · exfalso
        rw [h1, hx, hf b (by omega)] at e
        exact no b (by omega) e.symm
    · by_cases h2 : b = n
      · exfalso
        rw [h2, hx, hf a (by omega)] at e
        exact no a (by omega) e
      · rw [hf a (by omega), hf b (by omega)] at e
        exact h.inj a b (by omega) (by omega) e
  · constructor
    · rintro (h1 | rfl)
      · obtain ⟨k, hk, e⟩ := (h.on a).1 h1
        exact ⟨k, by omega, (hf k hk).trans e⟩
      · exact ⟨n, by omega, hx⟩
    · rintro ⟨k, hk, e⟩
      by_cases h1 : k = n
      · rw [h1, hx] at e
        exact Or.inr e.symm
      · rw [hf k (by omega)] at e
        exact Or.inl ((h.on a).2 ⟨k, by omega, e⟩)
theorem Hold.pop {f : Nat → Nat} {n : Nat} {S : Nat → Prop} (h : Hold f (n + 1) S) : Hold f n (fun a => S a ∧ a ≠ f n) := by
  refine ⟨fun a b ha hb e => h.inj a b (by omega) (by omega) e, fun a => ?_⟩
  constructor
  · rintro ⟨h1, h2⟩
    obtain ⟨k, hk, e⟩ := (h.on a).1 h1
    refine ⟨k, ?_, e⟩
    by_cases h3 : k = n
    · rw [h3] at e; exact absurd e.symm h2
    · omega
  · rintro ⟨k, hk, rfl⟩
    refine ⟨(h.on _).2 ⟨k, by omega, rfl⟩, fun e => ?_⟩
    have := h.inj k n (by omega) (by omega) e
    omega
/-- None is less than the one above it. -/
def Heap (lt : Nat → Nat → Bool) (f : Nat → Nat) (n : Nat) : Prop := ∀ k, 0 < k → k < n → lt (f k) (f ((k - 1) / 2)) = false
theorem Heap.least {lt : Nat → Nat → Bool} (o : Ord lt) {f : Nat → Nat} {n : Nat} (h : Heap lt f n) : ∀ k, k < n → lt (f k) (f 0) = false := by
  intro k
  induction k using Nat.strongRecOn with
  | _ k ih =>
    intro hk
    by_cases h0 : k = 0
    · rw [h0]; exact o.irr _
    · exact o.ntrans (h k (by omega) hk) (ih ((k - 1) / 2) (by omega) (by omega))
/-- As a heap, but for the place j, which may have to go up. -/
def UpH (lt : Nat → Nat → Bool) (f : Nat → Nat) (n j : Nat) : Prop :=
  (∀ k, 0 < k → k < n → k ≠ j → lt (f k) (f ((k - 1) / 2)) = false) ∧ (∀ k, 0 < k → k < n → (k - 1) / 2 = j → 0 < j → lt (f k) (f ((j - 1) / 2)) = false)
theorem UpH.start {lt : Nat → Nat → Bool} {f f' : Nat → Nat} {n : Nat} (h : Heap lt f n) (hf : ∀ k, k < n → f' k = f k) : UpH lt f' (n + 1) n := by
  refine ⟨fun k h0 hk hne => ?_, fun k h0 hk e _ => by omega⟩
  rw [hf k (by omega), hf ((k - 1) / 2) (by omega)]
  exact h k h0 (by omega)
theorem UpH.done {lt : Nat → Nat → Bool} {f : Nat → Nat} {n j : Nat} (h : UpH lt f n j) (hd : j = 0 ∨ lt (f j) (f ((j - 1) / 2)) = false) : Heap lt f n := fun k h0 hk => by
  by_cases e : k = j
  · subst e
    rcases hd with h1 | h1
    · omega
    · exact h1
  · exact h.1 k h0 hk e
theorem UpH.step {lt : Nat → Nat → Bool} (o : Ord lt) {f : Nat → Nat} {n i j : Nat} (h : UpH lt f n j) (h0 : 0 < j) (hj : j < n) (hi : (j - 1) / 2 = i) (hl : lt (f j) (f i) = true) : UpH lt (swp f i j) n i := by
  subst hi
  obtain ⟨i, hi⟩ : ∃ i, (j - 1) / 2 = i := ⟨_, rfl⟩
  rw [hi] at hl ⊢
  have hij : i < j := by omega
  obtain ⟨h1, h2⟩ := h
  refine ⟨fun k k0 hk hne => ?_, fun k k0 hk e i0 => ?_⟩
  · by_cases e : k = j
    · subst e
      rw [swp_j, hi, swp_i]
      exact o.asym _ _ hl
    · rw [swp_o _ hne e]
      by_cases p1 : (k - 1) / 2 = i
      · rw [p1, swp_i]
        cases q : lt (f k) (f j) with
        | false => rfl
        | true =>
          have := h1 k k0 hk e
          rw [p1, o.trans _ _ _ q hl] at this
          cases this
      · by_cases p2 : (k - 1) / 2 = j
        · rw [p2, swp_j]
          have := h2 k k0 hk p2 h0
          rwa [hi] at this
        · rw [swp_o _ p1 p2]
          exact h1 k k0 hk e
  · rw [swp_o (k := (i - 1) / 2) _ (by omega) (by omega)]
    have hii := h1 i i0 (by omega) (by omega)
    by_cases e2 : k = j
    · subst e2
      rw [swp_j]
      exact hii
    · rw [swp_o _ (by omega) e2]
      have := h1 k k0 hk e2
      rw [e] at this
      exact o.ntrans this hii
/-- As a heap, but for the place i, which may have to go down. -/
def DownH (lt : Nat → Nat → Bool) (f : Nat → Nat) (n i : Nat) : Prop :=
  (∀ k, 0 < k → k < n → (k - 1) / 2 ≠ i → lt (f k) (f ((k - 1) / 2)) = false) ∧ (∀ k, 0 < k → k < n → (k - 1) / 2 = i → 0 < i → lt (f k) (f ((i - 1) / 2)) = false)
theorem DownH.start {lt : Nat → Nat → Bool} {f : Nat → Nat} {n : Nat} (h : Heap lt f (n + 1)) : DownH lt (swp f 0 n) n 0 := by
  refine ⟨fun k h0 hk hne => ?_, fun k h0 hk e i0 => by omega⟩
  rw [swp_o _ (by omega) (by omega), swp_o _ hne (by omega)]
  exact h k h0 (by omega)
theorem DownH.done {lt : Nat → Nat → Bool} {f : Nat → Nat} {n i : Nat} (h : DownH lt f n i) (hd : ∀ k, 0 < k → k < n → (k - 1) / 2 = i → lt (f k) (f i) = false) : Heap lt f n := fun k h0 hk => by
  by_cases e : (k - 1) / 2 = i
  · rw [e]; exact hd k h0 hk e
  · exact h.1 k h0 hk e
theorem DownH.step {lt : Nat → Nat → Bool} (o : Ord lt) {f : Nat → Nat} {n i j : Nat} (h : DownH lt f n i) (hj : j < n) (j0 : 0 < j) (hi : (j - 1) / 2 = i)
    (hs : ∀ k, 0 < k → k < n → (k - 1) / 2 = i → lt (f k) (f j) = false) (hl : lt (f j) (f i) = true) : DownH lt (swp f i j) n j := by
  have hij : i < j := by omega
  obtain ⟨h1, h2⟩ := h
  refine ⟨fun k k0 hk hne => ?_, fun k k0 hk e _ => ?_⟩
  · by_cases p1 : (k - 1) / 2 = i
    · rw [p1, swp_i]
      by_cases e : k = j
      · subst e
        rw [swp_j]
        exact o.asym _ _ hl
      · rw [swp_o _ (by omega) e]
        exact hs k k0 hk p1
    · rw [swp_o (k := (k - 1) / 2) _ p1 hne]
      by_cases e : k = i
      · subst e
        rw [swp_i]
        exact h2 j j0 hj hi k0
      · rw [swp_o _ e (fun e2 => p1 (by rw [e2]; exact hi))]
        exact h1 k k0 hk p1
  · rw [hi, swp_i, swp_o _ (by omega) (by omega)]
    have := h1 k k0 hk (by omega)
    rwa [e] at this
/-- The numbers below n, in order. -/
structure InOrder (lt : Nat → Nat → Bool) (n : Nat) (l : List Nat) : Prop where
  rises : l.Pairwise (fun a b => lt a b = true)
  all : ∀ a, a ∈ l ↔ a < n
  len : l.length = n
theorem sorted_uniq {lt : Nat → Nat → Bool} (o : Ord lt) : ∀ {l m : List Nat}, l.Pairwise (fun a b => lt a b = true) → m.Pairwise (fun a b => lt a b = true) → (∀ a, a ∈ l ↔ a ∈ m) → l = m
  | [], [], _, _, _ => rfl
  | [], b :: m, _, _, h => absurd ((h b).2 (List.mem_cons_self ..)) (by simp)
  | a :: l, [], _, _, h => absurd ((h a).1 (List.mem_cons_self ..)) (by simp)
  | a :: l, b :: m, h1, h2, h => by
    rw [List.pairwise_cons] at h1 h2
    have e : a = b := by
      by_cases e : a = b
      · exact e
      · have q1 : lt b a = true := by
          rcases List.mem_cons.1 ((h a).1 (List.mem_cons_self ..)) with k | k
          · exact absurd k e
          · exact h2.1 a k
        have q2 : lt a b = true := by
          rcases List.mem_cons.1 ((h b).2 (List.mem_cons_self ..)) with k | k
          · exact absurd k.symm e
          · exact h1.1 b k
        have := o.asym a b q2
        rw [q1] at this
        cases this
    subst e
    congr 1
    refine sorted_uniq o h1.2 h2.2 fun c => ?_
    have hc := h c
    rw [List.mem_cons, List.mem_cons] at hc
    constructor
    · intro k
      rcases hc.1 (Or.inr k) with k2 | k2
      · have := h1.1 c k
        rw [k2, o.irr a] at this
        cases this
      · exact k2
    · intro k
      rcases hc.2 (Or.inr k) with k2 | k2
      · have := h2.1 c k
        rw [k2, o.irr a] at this
        cases this
      · exact k2
theorem InOrder.uniq {lt : Nat → Nat → Bool} (o : Ord lt) {n : Nat} {l m : List Nat} (h : InOrder lt n l) (k : InOrder lt n m) : l = m :=
  sorted_uniq o h.rises k.rises fun a => (h.all a).trans (k.all a).symm
/-- One more at the end of what has been taken out. -/
structure Taken (lt : Nat → Nat → Bool) (n : Nat) (out : List Nat) (f : Nat → Nat) (m : Nat) : Prop where
  rises : out.Pairwise (fun a b => lt a b = true)
  some' : Hold f m (fun a => a < n ∧ a ∉ out)
  below : ∀ a, a ∈ out → a < n
  ahead : ∀ a b, a ∈ out → b < n → b ∉ out → lt a b = true
  len : out.length + m = n
theorem Taken.start {lt : Nat → Nat → Bool} {n : Nat} {f : Nat → Nat} (h : Hold f n (fun a => a < n)) : Taken lt n [] f n :=
  ⟨List.Pairwise.nil, ⟨h.inj, fun a => by rw [← h.on]; simp⟩, fun a h => by simp at h, fun a b h => by simp at h, by simp⟩
theorem Taken.step {lt : Nat → Nat → Bool} (o : Ord lt) {n m x : Nat} {out : List Nat} {f f' : Nat → Nat} (h : Taken lt n out f (m + 1)) (hp : Heap lt f (m + 1)) (hx : f 0 = x) (hf : Hold f' m (fun a => (a < n ∧ a ∉ out) ∧ a ≠ x)) : Taken lt n (out ++ [x]) f' m := by
  have hxm : x < n ∧ x ∉ out := (h.some'.on x).2 ⟨0, by omega, hx⟩
  refine ⟨?_, ?_, ?_, ?_, ?_⟩
  · rw [List.pairwise_append]
    refine ⟨h.rises, List.pairwise_singleton _ _, fun a ha b hb => ?_⟩
    rw [List.mem_singleton.1 hb]
    exact h.ahead a x ha hxm.1 hxm.2
  · refine ⟨hf.inj, fun a => ?_⟩
    rw [← hf.on, List.mem_append, List.mem_singleton]
    constructor
    · rintro ⟨h1, h2⟩
      exact ⟨⟨h1, fun k => h2 (Or.inl k)⟩, fun k => h2 (Or.inr k)⟩
    · rintro ⟨⟨h1, h2⟩, h3⟩
      exact ⟨h1, fun k => k.elim h2 h3⟩
  · intro a ha
    rcases List.mem_append.1 ha with k | k
    · exact h.below a k
    · rw [List.mem_singleton.1 k]; exact hxm.1
  · intro a b ha hb hbn
    rw [List.mem_append, List.mem_singleton] at hbn
    rcases List.mem_append.1 ha with k | k
    · exact h.ahead a b k hb (fun q => hbn (Or.inl q))
    · rw [List.mem_singleton.1 k]
      obtain ⟨i, hi, e⟩ := (h.some'.on b).1 ⟨hb, fun q => hbn (Or.inl q)⟩
      have hl := Heap.least o hp i hi
      rw [hx, e] at hl
      exact o.total b x (fun q => hbn (Or.inr q)) hl
  · have := h.len
    rw [List.length_append, List.length_singleton]
    omega
theorem Taken.done {lt : Nat → Nat → Bool} {n : Nat} {out : List Nat} {f : Nat → Nat} (h : Taken lt n out f 0) : InOrder lt n out := by
  refine ⟨h.rises, fun a => ⟨h.below a, fun ha => ?_⟩, by have := h.len; omega⟩
  by_cases k : a ∈ out
  · exact k
  · obtain ⟨i, hi, _⟩ := (h.some'.on a).1 ⟨ha, k⟩
    omega
end Go.Proofs.YtnbagigbaceonaaGreatDoor
