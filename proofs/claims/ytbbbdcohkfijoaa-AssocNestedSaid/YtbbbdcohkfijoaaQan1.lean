/- Several texts in one (Blocks of cells: what lies in them, and what is kept; Arrays in memory: what their maps read as; sums over what is left of a range; plain; Arrays within one another, in memory; Contracts of layer 8: an array's parts; Contracts of layer 8: New, add; Contracts of layer 8: Set, Get; Contracts of layer 8: Sub; Contracts of layer 8: Total; Totals of arrays within one another; the laws' fixed; Plain: the guess of a limb of the quotient, and a round of the long division; A slice of strings that came in, opened and shut; The walk of the law AssocNested). -/
import Derived.WalkSmall
import Derived.WalkKit
import Derived.WalkSpells
import Derived.WalkLawsBesides
import Derived.ProofKit
import Derived.Below
import Derived.Lib.Hide
import Derived.Laws.OwnMore
import Derived.Lib.SmallJoins
import Derived.Maps.OwnSet
import Derived.Maps.RangeWalk
import Derived.Test.YtbbbdcohkfijoaaProg
import Derived.Test.YtbbbdcohkfijoaaShelf
import Derived.RegionTactic
import Derived.Deep.RegionHeld3
import Derived.KernelRfl
import Derived.OpenShut
import Derived.ChangeShapes
import Derived.WideShapes
import Derived.Deep.Strs
import Derived.Laws.MakeOwn
import Derived.Maps.AppendAt
import Derived.Laws.AppendOwnNone
import Derived.RangeFuncBox
import Derived.LaidEqlPtr
namespace Go.Proofs.Ytbbbdcohkfijoaa
open Go.RowKit Go.Lib

/-- Block g is this row of cells. -/
structure Blk (W : World) (g : Nat) (cs : Array Value) (t : TypeId) : Prop where
  row : W.heap[g]? = some (.cells cs t (0, 0))
theorem as_vint {κ : IntKind} {a b : Int} (h : a = b) : Value.int κ a = Value.int κ b := by rw [h]
theorem Blk.lt {W : World} {g : Nat} {cs : Array Value} {t : TypeId} (h : Blk W g cs t) : g < W.heap.size := (Array.getElem?_eq_some_iff.1 h.row).1
theorem Blk.cell {W : World} {g : Nat} {cs : Array Value} {t : TypeId} (h : Blk W g cs t) (j : Nat) : W.cell? ⟨g, j, none⟩ = cs[j]? := cell_of_row W _ j _ _ _ h.row
theorem Blk.fro {W : World} {g : Nat} {cs : Array Value} {t : TypeId} (h : Blk W g cs t) (j : Nat) : W.frozen? ⟨g, j, none⟩ = false := frozen_of_row W _ j _ _ h.row
theorem Blk.below {W W' : World} {g B : Nat} {cs : Array Value} {t : TypeId} (h : Blk W g cs t) (hb : Below B W W') (hg : g < B) : Blk W' g cs t := ⟨(hb.block g hg).trans h.row⟩
theorem Blk.new (w : World) (cs : Array Value) (t : TypeId) : Blk (w.alloc (.cells cs t)) w.heap.size cs t := ⟨heap_alloc_new w _⟩
theorem Blk.alloc {W : World} {g : Nat} {cs : Array Value} {t : TypeId} (h : Blk W g cs t) (o : Obj) : Blk (W.alloc o) g cs t := ⟨(Below.heap_alloc W o g h.lt).trans h.row⟩
theorem Blk.set {W : World} {g j : Nat} {cs : Array Value} {t : TypeId} {u : Value} (h : Blk W g cs t) : Blk (W.setCell ⟨g, j, none⟩ u) g (cs.setIfInBounds j u) t := ⟨heap_setCell_same W g j cs t u h.row⟩
theorem Blk.other {W : World} {g g' j : Nat} {cs : Array Value} {t : TypeId} {u : Value} (h : Blk W g cs t) (hne : g ≠ g') : Blk (W.setCell ⟨g', j, none⟩ u) g cs t := by
  refine ⟨?_⟩
  rw [Below.heap_setCell W ⟨g', j, none⟩ u g hne]
  exact h.row
theorem Blk.grown {W W' : World} {g : Nat} {cs : Array Value} {t : TypeId} {r : Option Nat} (h : Blk W g cs t) (hg : W.grownBy W' r) (hne : some g ≠ r) : Blk W' g cs t := ⟨(hg.block g h.lt hne).trans h.row⟩
/-- Of what was there nothing has turned but blocks a and m. -/
structure Off2 (a m : Nat) (w w' : World) : Prop where
  os : w'.os = w.os
  tape : w'.tape = w.tape
  output : w'.output = w.output
  size : w.heap.size ≤ w'.heap.size
  block : ∀ i, i < w.heap.size → i ≠ a → i ≠ m → w'.heap[i]? = w.heap[i]?
theorem Off2.of_below {a m : Nat} {w w' : World} (h : Below w.heap.size w w') : Off2 a m w w' := ⟨h.os, h.tape, h.output, h.size, fun i hi _ _ => h.block i hi⟩
theorem Off2.trans {a m : Nat} {w w1 w2 : World} (h : Off2 a m w w1) (k : Off2 a m w1 w2) : Off2 a m w w2 := ⟨k.os.trans h.os, k.tape.trans h.tape, k.output.trans h.output, Nat.le_trans h.size k.size, fun i hi h1 h2 => (k.block i (Nat.lt_of_lt_of_le hi h.size) h1 h2).trans (h.block i hi h1 h2)⟩
theorem Off2.turned {a m : Nat} {w w' : World} (ht : w.mapTurned w' m) : Off2 a m w w' := by
  have g := ht.grown
  exact ⟨g.os, g.tape, g.output, g.size, fun i hi _ h2 => g.block i hi (by simp; omega)⟩
theorem Off2.setCell (w : World) (a m j : Nat) (u : Value) : Off2 a m w (w.setCell ⟨a, j, none⟩ u) := by
  have b := (Below.refl 0 w).setCell (p := ⟨a, j, none⟩) (Nat.zero_le _) u
  exact ⟨b.os, b.tape, b.output, b.size, fun i _ h1 _ => Below.heap_setCell w ⟨a, j, none⟩ u i h1⟩
theorem Off2.below {a m B : Nat} {w w' : World} (h : Off2 a m w w') (h1 : B ≤ a) (h2 : B ≤ m) (h3 : B ≤ w.heap.size) : Below B w w' := ⟨h.os, h.tape, h.output, h.size, fun i hi => h.block i (by omega) (by omega) (by omega)⟩
theorem Blk.off2 {a m : Nat} {W W' : World} {g : Nat} {cs : Array Value} {t : TypeId} (h : Blk W g cs t) (o : Off2 a m W W') (h1 : g ≠ a) (h2 : g ≠ m) : Blk W' g cs t := ⟨(o.block g h.lt h1 h2).trans h.row⟩
/-- A store into a block that was not there: aside. -/
theorem Off2.fresh {a m : Nat} {w w' : World} (h : Off2 a m w w') {p : Addr} (hp : w.heap.size ≤ p.block) (u : Value) : Off2 a m w (w'.setCell p u) := by
  have b := (Below.refl 0 w').setCell (p := p) (Nat.zero_le _) u
  exact ⟨b.os.trans h.os, b.tape.trans h.tape, b.output.trans h.output, Nat.le_trans h.size b.size, fun i hi h1 h2 => (Below.heap_setCell w' p u i (by omega)).trans (h.block i hi h1 h2)⟩
end Go.Proofs.Ytbbbdcohkfijoaa

namespace Go.Proofs.Ytbbbdcohkfijoaa
open Go.RowKit Go.Lib Go.Maps

/-- What a map of pointers reads as: the pointers themselves. -/
abbrev AD := DataW Value
def asR (v : Value) : Option (AD × List MemPlace) := some (.held v, [])
def klS (s : ByteArray) : Lit := .string s.data.toList
abbrev ptrB (e : Nat) : Value := .pointer (some ⟨e, 0, none⟩)
abbrev nilP : Value := .pointer none
theorem law_s : Keyed Try.prog 9 := string_keyed Try.underlying9
theorem key_s {s : ByteArray} (h : s.size ≤ maxLen) : keyOf Try.prog 9 (.string s) = some (klS s) := Go.WideMaps.keyOf_string_mk Try.underlying9 h
theorem zeroE (w : World) : (zeroValue 44).run Try.prog w = .ok (.pointer none) w := by kernel_rfl
theorem klS_key (s : ByteArray) : WideAt.IsKeyLit (klS s) := trivial
theorem look_run {W : World} {m n : Nat} {D : AD} {s : ByteArray} {v : Value} (h : W.ownsMap Try.prog 9 asR m n D) (hs : s.size ≤ maxLen) (hat : D.atKey (klS s) (.held nilP) = .held v) :
    (Instr.lookup 41 (.map (some m)) (.string s) false).run Try.prog W = .ok v W := by
  obtain ⟨u, ps, hr, hu⟩ := h.lookup law_s Try.underlying41 (zeroE W) (zd := .held nilP) (zp := []) rfl (key_s hs)
  unfold asR at hu
  rw [hat] at hu
  simp only [Option.some.injEq, Prod.mk.injEq, DataW.held.injEq] at hu
  rw [hr, hu.1]
/-- Below, as the maps' laws say it. -/
theorem below_grown {w w' : World} (h : Below w.heap.size w w') : w.grownBy w' none := ⟨h.os, h.tape, h.output, h.size, fun i hi _ => h.block i hi⟩
/-- An array: two cells, and its map. -/
structure Arr (W : World) (a m n : Nat) (came : Int) (D : AD) : Prop where
  row : Blk W a #[.map (some m), .int .i64 came] 43
  own : W.ownsMap Try.prog 9 asR m n D
theorem Arr.below {W W' : World} {a m n : Nat} {came : Int} {D : AD} {B : Nat} (h : Arr W a m n came D) (hb : Below B W W') (ha : a < B) (hm : m < B) : Arr W' a m n came D := by
  refine ⟨⟨(hb.block a ha).trans h.row.row⟩, ?_⟩
  obtain ⟨es, clock, hh, F, hs, hD⟩ := h.own
  exact ⟨es, clock, (hb.block m hm).trans hh, F, hs, hD⟩
theorem Arr.off2 {W W' : World} {a m n x y : Nat} {came : Int} {D : AD} (h : Arr W a m n came D) (o : Off2 x y W W') (h1 : a ≠ x) (h2 : a ≠ y) (h3 : m ≠ x) (h4 : m ≠ y) : Arr W' a m n came D := by
  refine ⟨h.row.off2 o h1 h2, ?_⟩
  have hlt := h.own.lt
  obtain ⟨es, clock, hh, F, hs, hD⟩ := h.own
  exact ⟨es, clock, (o.block m hlt h3 h4).trans hh, F, hs, hD⟩
theorem Arr.setCell {W : World} {a m n : Nat} {came : Int} {D : AD} (h : Arr W a m n came D) {p : Addr} (ha : a ≠ p.block) (hm : m ≠ p.block) (u : Value) : Arr (W.setCell p u) a m n came D := by
  obtain ⟨b, off, s⟩ := p
  refine ⟨⟨?_⟩, h.own.setCell hm u⟩
  rw [Below.heap_setCell W ⟨b, off, s⟩ u a ha]
  exact h.row.row
theorem Arr.kept {W W' : World} {a m n : Nat} {came : Int} {D : AD} (h : Arr W a m n came D) (hb : Below W.heap.size W W') : Arr W' a m n came D := h.below hb h.row.lt h.own.lt
/-- An element. -/
abbrev Elt (W : World) (e : Nat) (key : ByteArray) (num kind : Int) (N : Nat) (S : ByteArray) (sub : Value) : Prop := Blk W e #[.string key, .int .i64 num, .int .i64 kind, .float .f64 N, .string S, sub] 47
/-- Sums over what is no longer left. -/
def totL (T : Lit → Int) (left : Lit → Bool) (es : List (Lit × AD)) : Int := (es.map fun p => if left p.1 = true then 0 else T p.1).sum
def totA (T : Lit → Int) (es : List (Lit × AD)) : Int := (es.map fun p => T p.1).sum
theorem totL_has (T : Lit → Int) {es : List (Lit × AD)} (hk : ∀ p ∈ es, WideAt.IsKeyLit p.1) : totL T (Maps.has (.map es : AD)) es = 0 := by
  unfold totL
  have : (es.map fun p => if Maps.has (.map es : AD) p.1 = true then 0 else T p.1) = es.map fun _ => (0 : Int) := by
    apply List.map_congr_left
    intro p hp
    rw [if_pos]
    exact List.any_eq_true.2 ⟨p, hp, WideAt.sameKey_self (hk p hp)⟩
  rw [this]
  clear this hk
  induction es with
  | nil => rfl
  | cons p es ih => rw [List.map_cons, List.sum_cons, ih]; rfl
theorem totL_none (T : Lit → Int) {left : Lit → Bool} (h : ∀ kl, left kl = false) (es : List (Lit × AD)) : totL T left es = totA T es := by
  unfold totL totA
  congr 1
  apply List.map_congr_left
  intro p _
  rw [h p.1]
  rfl
theorem totL_strike (T : Lit → Int) {left : Lit → Bool} {kl : Lit} (hl : left kl = true) : ∀ {es : List (Lit × AD)}, es.Pairwise (fun p q => p.1 ≠ q.1) → (∀ p ∈ es, WideAt.IsKeyLit p.1) → (∃ p ∈ es, p.1 = kl) → totL T (fun z => left z && !z.sameKey kl) es = totL T left es + T kl := by
  have away : ∀ (es : List (Lit × AD)), (∀ p ∈ es, p.1 ≠ kl) → totL T (fun z => left z && !z.sameKey kl) es = totL T left es := by
    intro es h
    unfold totL
    congr 1
    apply List.map_congr_left
    intro p hp
    have : p.1.sameKey kl = false := by
      cases q : p.1.sameKey kl with
      | false => rfl
      | true => exact absurd (WideAt.sameKey_eq q) (h p hp)
    show (if (left p.1 && !p.1.sameKey kl) = true then (0 : Int) else T p.1) = _
    rw [this]
    simp
  intro es
  induction es with
  | nil => intro _ _ h; obtain ⟨p, hp, _⟩ := h; cases hp
  | cons p es ih =>
    intro hp hk hex
    have hp1 := (List.pairwise_cons.1 hp).1
    have hp2 := (List.pairwise_cons.1 hp).2
    have cons : ∀ l : Lit → Bool, totL T l (p :: es) = (if l p.1 = true then 0 else T p.1) + totL T l es := fun l => by unfold totL; rw [List.map_cons, List.sum_cons]
    rw [cons, cons]
    by_cases e : p.1 = kl
    · subst e
      rw [away es (fun q hq => fun h => hp1 q hq h.symm)]
      show (if (left p.1 && !p.1.sameKey p.1) = true then (0 : Int) else T p.1) + _ = _
      rw [WideAt.sameKey_self (hk p (List.mem_cons_self ..)), hl]
      simp
      omega
    · have hne : p.1.sameKey kl = false := by
        cases q : p.1.sameKey kl with
        | false => rfl
        | true => exact absurd (WideAt.sameKey_eq q) e
      show (if (left p.1 && !p.1.sameKey kl) = true then (0 : Int) else T p.1) + _ = _
      rw [hne, ih hp2 (fun q hq => hk q (List.mem_cons_of_mem _ hq)) (by
        obtain ⟨q, hq, hqe⟩ := hex
        rcases List.mem_cons.1 hq with rfl | h
        · exact absurd hqe e
        · exact ⟨q, h, hqe⟩)]
      simp
      omega
theorem mem_of_at {es : List (Lit × AD)} {kl : Lit} {y : AD} (hk : WideAt.IsKeyLit kl) (hap : es.Pairwise (fun p q => p.1 ≠ q.1)) (hat : ∀ zd, (DataW.map es : AD).atKey kl zd = y) : ∃ p ∈ es, p.1 = kl ∧ p.2 = y := by
  have h := Maps.has_true_of_atKey hat
  obtain ⟨p, hp, hpk⟩ := List.any_eq_true.1 h
  have e := WideAt.sameKey_eq hpk
  refine ⟨p, hp, e, ?_⟩
  have := WideAt.atKey_mem (d := p.2) (.held nilP) hk hap (by rw [← e]; exact hp)
  rw [← this]
  exact hat _
theorem at_one (s : ByteArray) (d z : AD) : (DataW.map [(klS s, d)] : AD).atKey (klS s) z = d := WideAt.atKey_mem z (klS_key s) (by simp) (by simp)
end Go.Proofs.Ytbbbdcohkfijoaa

namespace Go.Proofs.Ytbbbdcohkfijoaa
open Go.RowKit Go.Lib Go.Maps

/-- Levels: key, the map's block, the element's block. -/
def Chain (W : World) : Nat → List (ByteArray × Nat × Nat) → Nat → Nat → Nat → Prop
  | lo, [], a, z, hi => a = z ∧ lo = hi
  | lo, (k, m, e) :: r, a, z, hi => lo ≤ a ∧ lo ≤ m ∧ a < e ∧ m < e ∧ Arr W a m 1 1 (.map [(klS k, .held (ptrB e))]) ∧ ∃ a', Elt W e k 0 0 0 ⟨#[]⟩ (ptrB a') ∧ Chain W (e + 1) r a' z hi
theorem chain_le {W : World} : ∀ {l : List (ByteArray × Nat × Nat)} {lo a z hi : Nat}, Chain W lo l a z hi → lo ≤ hi := by
  intro l
  induction l with
  | nil => intro lo a z hi h; exact Nat.le_of_eq h.2
  | cons p l ih =>
    intro lo a z hi h
    obtain ⟨h1, _, h3, _, _, a', _, h7⟩ := h
    have := ih h7
    omega
theorem chain_below {W W' : World} {B : Nat} (hb : Below B W W') : ∀ {l : List (ByteArray × Nat × Nat)} {lo a z hi : Nat}, hi ≤ B → Chain W lo l a z hi → Chain W' lo l a z hi := by
  intro l
  induction l with
  | nil => intro lo a z hi _ h; exact h
  | cons p l ih =>
    intro lo a z hi hB h
    obtain ⟨h1, h2, h3, h4, h5, a', h6, h7⟩ := h
    have := chain_le h7
    exact ⟨h1, h2, h3, h4, h5.below hb (by omega) (by omega), a', h6.below hb (by omega), ih hB h7⟩
theorem chain_snoc {W : World} {k : ByteArray} {m e z' : Nat} : ∀ {l : List (ByteArray × Nat × Nat)} {lo a z hi : Nat}, Chain W lo l a z hi → hi ≤ z → hi ≤ m → z < e → m < e → Arr W z m 1 1 (.map [(klS k, .held (ptrB e))]) → Elt W e k 0 0 0 ⟨#[]⟩ (ptrB z') → Chain W lo (l ++ [(k, m, e)]) a z' (e + 1) := by
  intro l
  induction l with
  | nil =>
    intro lo a z hi h h1 h2 h3 h4 h5 h6
    obtain ⟨rfl, rfl⟩ := h
    exact ⟨h1, h2, h3, h4, h5, z', h6, rfl, rfl⟩
  | cons p l ih =>
    intro lo a z hi h g1 g2 g3 g4 g5 g6
    obtain ⟨h1, h2, h3, h4, h5, a', h6, h7⟩ := h
    exact ⟨h1, h2, h3, h4, h5, a', h6, ih h7 g1 g2 g3 g4 g5 g6⟩
end Go.Proofs.Ytbbbdcohkfijoaa

namespace Go.Proofs.Ytbbbdcohkfijoaa
open Go.RowKit Go.Lib Go.Maps

theorem asClone_any (s : ByteArray) (w : World) (hs : s.size ≤ 281474976710656) : Calls Try.prog 18 #[.string s] w fun e w' => e = .returned (.string s) ∧ Below w.heap.size w w' := by
  have C := Lib.hid (Try.stringslite_Clone s w hs)
  go_enter Try.func18, Try.ntmps18
  go_wp2_with fail
  refine C.out.mono ?_
  rintro e w' ⟨rfl, hB⟩
  go_wp2
  go_ret
  exact ⟨rfl, hB⟩
theorem held_any {W : World} {a m n : Nat} {came : Int} {D : AD} (h : Arr W a m n came D) : Calls Try.prog 16 #[ptrB a] W fun e w' => e = .returned (.map (some m)) ∧ W = w' := by
  have c0 : W.cell? ⟨a, 0, none⟩ = some (.map (some m)) := h.row.cell 0
  clear h
  go_enter Try.func16, Try.ntmps16
  go_wp2
  go_ret
  exact ⟨rfl, rfl⟩
/-- What kind answers. -/
def KindIs (W : World) (v : Value) (k : Int) : Prop := Calls Try.prog 14 #[v] W fun e w' => e = .returned (.int .i64 k) ∧ W = w'
theorem kind_nil (W : World) : KindIs W nilP 0 := by
  unfold KindIs
  go_enter Try.func14, Try.ntmps14
  go_wp2
  go_ret
  exact ⟨rfl, rfl⟩
theorem kind_val {W : World} {e : Nat} {key : ByteArray} {num kind : Int} {N : Nat} {S : ByteArray} (h : Elt W e key num kind N S nilP) : KindIs W (ptrB e) 1 := by
  unfold KindIs
  have c5 : W.cell? ⟨e, 5, none⟩ = some nilP := h.cell 5
  clear h
  go_enter Try.func14, Try.ntmps14
  go_wp2
  go_ret
  exact ⟨rfl, rfl⟩
theorem kind_arr {W : World} {e s : Nat} {key : ByteArray} {num kind : Int} {N : Nat} {S : ByteArray} (h : Elt W e key num kind N S (ptrB s)) : KindIs W (ptrB e) 2 := by
  unfold KindIs
  have c5 : W.cell? ⟨e, 5, none⟩ = some (ptrB s) := h.cell 5
  clear h
  go_enter Try.func14, Try.ntmps14
  go_wp2
  go_ret
  exact ⟨rfl, rfl⟩
theorem kindKey_any {W : World} {a m n : Nat} {came : Int} {D : AD} (h : Arr W a m n came D) (s : ByteArray) (hs : s.size ≤ maxLen) {v : Value} {k : Int} (hat : D.atKey (klS s) (.held nilP) = .held v) (hk : KindIs W v k) :
    Calls Try.prog 7 #[ptrB a, .string s] W fun e w' => e = .returned (.int .i64 k) ∧ W = w' := by
  have CH := Lib.hid (held_any h)
  have hl := look_run h.own hs hat
  have CK := Lib.hid hk
  clear h hat hk
  go_enter Try.func7, Try.ntmps7
  go_wp2_with fail
  refine CH.out.mono ?_
  rintro e w' ⟨rfl, rfl⟩
  go_wp2_with fail
  refine (show Calls _ _ _ _ _ from CK.out).mono ?_
  rintro e w' ⟨rfl, rfl⟩
  go_wp2
  go_ret
  exact ⟨rfl, rfl⟩
theorem len_any {W : World} {a m n : Nat} {came : Int} {D : AD} (h : Arr W a m n came D) :
    Calls Try.prog 8 #[ptrB a] W fun e w' => e = .returned (.int .i64 (Maps.size D)) ∧ W = w' := by
  have CH := Lib.hid (held_any h)
  have hl := fun ty => h.own.len (t := 41) Try.underlying41 ty
  clear h
  go_enter Try.func8, Try.ntmps8
  go_wp2_with fail
  refine CH.out.mono ?_
  rintro e w' ⟨rfl, rfl⟩
  go_wp2
  go_ret
  exact ⟨rfl, rfl⟩
theorem Blk.three {W : World} {g : Nat} {a b c : Value} {t : TypeId} (h : Blk W g #[a, b, c] t) : W.cell? ⟨g, 0, none⟩ = some a ∧ W.cell? ⟨g, 1, none⟩ = some b ∧ W.cell? ⟨g, 2, none⟩ = some c ∧ W.frozen? ⟨g, 0, none⟩ = false ∧ W.frozen? ⟨g, 1, none⟩ = false ∧ W.frozen? ⟨g, 2, none⟩ = false :=
  ⟨h.cell 0, h.cell 1, h.cell 2, h.fro 0, h.fro 1, h.fro 2⟩
theorem as_end3 {w W : World} {B B0 : Nat} {t : TypeId} {a0 a1 a2 : Value} (v0 v1 v2 : Value) (F : Blk W B #[a0, a1, a2] t) (h : Below B0 w W) (hB : B0 ≤ B) :
    Blk (((W.setCell ⟨B, 0, none⟩ v0).setCell ⟨B, 1, none⟩ v1).setCell ⟨B, 2, none⟩ v2) B #[v0, v1, v2] t ∧ Below B0 w (((W.setCell ⟨B, 0, none⟩ v0).setCell ⟨B, 1, none⟩ v1).setCell ⟨B, 2, none⟩ v2) :=
  ⟨((F.set (j := 0) (u := v0)).set (j := 1) (u := v1)).set (j := 2) (u := v2), ((h.setCell (p := ⟨B, 0, none⟩) hB _).setCell (p := ⟨B, 1, none⟩) hB _).setCell (p := ⟨B, 2, none⟩) hB _⟩
theorem as_store_float (a : Addr) (n : Nat) (m : Mode) (w : World) : (store a (.float .f64 n) m).run Try.prog w = stored Try.prog w a (.float .f64 n) m := run_store _ w a _ m rfl
/-- Values of the definition. -/
theorem asText_any (s : ByteArray) (w : World) : Calls Try.prog 11 #[.string s] w fun e w' => e = .returned (.agg #[.int .i64 2, .float .f64 0, .string s]) ∧ Below w.heap.size w w' := by
  have F := Blk.new w #[.int .i64 0, .float .f64 0, .string ⟨#[]⟩] 35
  obtain ⟨q0, q1, q2, r0, r1, r2⟩ := F.three
  have hst := as_store_float
  clear F
  go_enter Try.func11, Try.ntmps11
  go_wp2_with fail
  exact bodyPost_ret (v := .agg #[.int .i64 2, .float .f64 0, .string s]) (by simp [results, Try.results11, go_sem]) rfl ⟨rfl, (Below.refl w.heap.size w).alloc (Nat.le_refl _) _⟩
theorem asOf_any (x : Nat) (w : World) : Calls Try.prog 13 #[.float .f64 x] w fun e w' => e = .returned (.agg #[.int .i64 1, .float .f64 x, .string ⟨#[]⟩]) ∧ Below w.heap.size w w' := by
  have F := Blk.new w #[.int .i64 0, .float .f64 0, .string ⟨#[]⟩] 35
  obtain ⟨q0, q1, q2, r0, r1, r2⟩ := F.three
  have hst := as_store_float
  clear F
  go_enter Try.func13, Try.ntmps13
  go_wp2_with fail
  exact bodyPost_ret (v := .agg #[.int .i64 1, .float .f64 x, .string ⟨#[]⟩]) (by simp [results, Try.results13, go_sem]) rfl ⟨rfl, (Below.refl w.heap.size w).alloc (Nat.le_refl _) _⟩
/-- copied: the same value. -/
theorem copied_any (kind : Int) (N : Nat) (S : ByteArray) (w : World) (hs : S.size ≤ 281474976710656) : Calls Try.prog 17 #[.agg #[.int .i64 kind, .float .f64 N, .string S]] w fun e w' => e = .returned (.agg #[.int .i64 kind, .float .f64 N, .string S]) ∧ Below w.heap.size w w' := by
  have C := Lib.hid (fun W => asClone_any S W hs)
  have F := (Blk.new w #[.int .i64 kind, .float .f64 N, .string S] 35).alloc (.cells #[.int .i64 0, .float .f64 0, .string ⟨#[]⟩] 35)
  have G := Blk.new (w.alloc (.cells #[.int .i64 kind, .float .f64 N, .string S] 35)) #[.int .i64 0, .float .f64 0, .string ⟨#[]⟩] 35
  rw [World.size_alloc] at G
  have hb := ((Below.refl w.heap.size w).alloc (Nat.le_refl _) (.cells #[.int .i64 kind, .float .f64 N, .string S] 35)).alloc (by simp) (.cells #[.int .i64 0, .float .f64 0, .string ⟨#[]⟩] 35)
  obtain ⟨q0, q1, q2, r0, r1, r2⟩ := F.three
  obtain ⟨W2, hW2⟩ : ∃ W2, (w.alloc (.cells #[.int .i64 kind, .float .f64 N, .string S] 35)).alloc (.cells #[.int .i64 0, .float .f64 0, .string ⟨#[]⟩] 35) = W2 := ⟨_, rfl⟩
  rw [hW2] at F G hb q0 q1 q2 r0 r1 r2
  have HW2 := Lib.hid hW2
  have HF := Lib.hid F
  have HG := Lib.hid G
  have HB := Lib.hid hb
  clear hW2 F G hb
  go_enter Try.func17, Try.ntmps17
  go_wp2_with fail
  rw [HW2.out]
  refine (C.out _).mono ?_
  rintro e w' ⟨rfl, h2⟩
  clear q0 q1 q2 r0 r1 r2
  have hle := HB.out.size
  have F2 := HF.out.below h2 HF.out.lt
  have G2 := HG.out.below h2 HG.out.lt
  have HB2 := HB.out.trans (h2.mono hle)
  clear h2 HW2 HF HG HB
  obtain ⟨q0, q1, q2, r0, r1, r2⟩ := F2.three
  obtain ⟨u0, u1, u2, s0, s1, s2⟩ := G2.three
  have hst := as_store_float
  go_wp2_with fail
  clear q0 q1 q2 r0 r1 r2 u0 u1 u2 s0 s1 s2
  have G3 := G2.other (g' := w.heap.size) (j := 2) (u := .string S) (by omega)
  have HB3 := HB2.setCell (p := ⟨w.heap.size, 2, none⟩) (Nat.le_refl _) (.string S)
  obtain ⟨z, hz⟩ := as_end3 (.int .i64 kind) (.float .f64 N) (.string S) G3 HB3 (Nat.le_succ _)
  obtain ⟨q0, q1, q2, -⟩ := z.three
  exact bodyPost_ret (v := .agg #[.int .i64 kind, .float .f64 N, .string S]) (by simp [results, Try.results17, go_sem, q0, q1, q2]) rfl ⟨rfl, hz⟩
end Go.Proofs.Ytbbbdcohkfijoaa

namespace Go.Proofs.Ytbbbdcohkfijoaa
open Go.RowKit Go.Lib Go.Maps

theorem new_any (w : World) : Calls Try.prog 5 #[] w fun e w' => ∃ a m, e = .returned (ptrB a) ∧ Arr w' a m 0 0 (.map []) ∧ w.heap.size ≤ a ∧ w.heap.size ≤ m ∧ Below w.heap.size w w' := by
  have hmm := @run_makeMap Try.prog
  have ho := (World.ownsMap_made w Try.prog 9 asR).alloc (.cells #[.map (some w.heap.size), .int .i64 0] 43)
  have hr := Blk.new (w.alloc (.map #[] 0)) #[.map (some w.heap.size), .int .i64 0] 43
  have hb := ((Below.refl w.heap.size w).alloc (Nat.le_refl _) (.map #[] 0)).alloc (by simp) (.cells #[.map (some w.heap.size), .int .i64 0] 43)
  rw [World.size_alloc] at hr
  have HO := Lib.hid ho
  have HR := Lib.hid hr
  have HB := Lib.hid hb
  clear ho hr hb
  go_enter Try.func5, Try.ntmps5
  go_wp2
  go_ret
  exact ⟨w.heap.size + 1, w.heap.size, rfl, ⟨HR.out, HO.out⟩, by omega, Nat.le_refl _, HB.out⟩
/-- 'm[k] = v': the world behind it. -/
noncomputable def mapPut (W : World) (m : Nat) (s : ByteArray) (v : Value) : World := match (Instr.mapUpdate 41 (.map (some m)) (.string s) v).run Try.prog W with | .ok _ w' => w' | _ => W
theorem put_run {W : World} {m n : Nat} {D : AD} (h : W.ownsMap Try.prog 9 asR m n D) (hn : n < maxLen) {s : ByteArray} (hs : s.size ≤ maxLen) (v : Value) :
    (Instr.mapUpdate 41 (.map (some m)) (.string s) v).run Try.prog W = .ok () (mapPut W m s v) ∧ (mapPut W m s v).ownsMap Try.prog 9 asR m (n + 1) (D.put (klS s) (.held v)) ∧ W.mapTurned (mapPut W m s v) m := by
  obtain ⟨w', hr, h1, h2⟩ := h.store law_s Try.underlying41 hn (key_s hs) (d := .held v) (ps := []) (val := v) rfl
  have e : mapPut W m s v = w' := by unfold mapPut; rw [hr]
  rw [e]
  exact ⟨hr, h1, h2⟩
theorem add_any {W : World} {a m n : Nat} {came : Int} {D : AD} (h : Arr W a m n came D) (s : ByteArray) (hs : s.size ≤ 281474976710656) (hn : n < maxLen) (hc0 : 0 ≤ came) (hc1 : came < 1000000) :
    Calls Try.prog 15 #[ptrB a, .string s] W fun e w' => ∃ el, e = .returned (ptrB el) ∧ W.heap.size ≤ el ∧ Arr w' a m (n + 1) (came + 1) (D.put (klS s) (.held (ptrB el))) ∧ Elt w' el s came 0 0 ⟨#[]⟩ nilP ∧ Off2 a m W w' := by
  have C := Lib.hid (fun W => asClone_any s W hs)
  have hR : Below W.heap.size W W := Below.refl _ _
  have HK := Lib.hid (fun (W' : World) (hb : Below W.heap.size W W') => (show W'.cell? ⟨a, 1, none⟩ = some (.int .i64 came) from (h.kept hb).row.cell 1))
  have c1 : W.cell? ⟨a, 1, none⟩ = some (.int .i64 came) := h.row.cell 1
  have HA := Lib.hid h
  clear h
  go_enter Try.func15, Try.ntmps15
  go_wp2_with fail
  go_region_held3 (fun w' => w'.cell? ⟨a, 1, none⟩ = some (.int .i64 came))
    (first | (with_reducible exact S1) | go_keep)
    (first | (go_at_call 18; (with_reducible refine (C.out _).mono ?_); rintro e W3 ⟨rfl, h3⟩; have b3 : Below W.heap.size W W3 := ⟨h3.os, h3.tape, h3.output, h3.size, h3.block⟩; have S1 := HK.out _ b3; clear h3))
  rename_i hHeld
  clear hHeld S1 c1
  have A3 := HA.out.kept b3
  have A4 : Arr (W3.alloc (.cells #[.string s, .int .i64 came, .int .i64 0, .float .f64 0, .string ⟨#[]⟩, nilP] 47)) a m n came D := ⟨A3.row.alloc _, A3.own.alloc _⟩
  have E4 := Blk.new W3 #[.string s, .int .i64 came, .int .i64 0, .float .f64 0, .string ⟨#[]⟩, nilP] 47
  have hsz : W.heap.size ≤ W3.heap.size := b3.size
  have b4 := b3.alloc hsz (.cells #[.string s, .int .i64 came, .int .i64 0, .float .f64 0, .string ⟨#[]⟩, nilP] 47)
  have hel : W3.heap.size < (W3.alloc (.cells #[.string s, .int .i64 came, .int .i64 0, .float .f64 0, .string ⟨#[]⟩, nilP] 47)).heap.size := by rw [World.size_alloc]; omega
  obtain ⟨el, hE⟩ : ∃ el, W3.heap.size = el := ⟨_, rfl⟩
  rw [hE] at E4 hsz hel
  obtain ⟨W4, hW4⟩ : ∃ W4, W3.alloc (.cells #[.string s, .int .i64 came, .int .i64 0, .float .f64 0, .string ⟨#[]⟩, nilP] 47) = W4 := ⟨_, rfl⟩
  have HAM := Lib.hid (show a < W.heap.size ∧ m < W.heap.size from ⟨HA.out.row.lt, HA.out.own.lt⟩)
  rw [hW4] at A4 E4 b4 hel
  rw [hE]
  rw [hW4]
  clear A3 b3 hE hW4 HA HK C
  have c0 : W4.cell? ⟨a, 0, none⟩ = some (.map (some m)) := A4.row.cell 0
  have e0 : W4.cell? ⟨el, 0, none⟩ = some (.string s) := E4.cell 0
  obtain ⟨hmu, o5, t5⟩ := put_run (W := W4.drew) (s := s) A4.own hn (by unfold maxLen; omega) (ptrB el)
  have g5 : W4.drew.grownBy (mapPut W4.drew m s (ptrB el)) (some m) := t5.grown
  have ham : a ≠ m := fun e => by
    obtain ⟨es, clock, hh, _⟩ := A4.own
    rw [← e, A4.row.row] at hh
    cases hh
  have r5 : Blk (mapPut W4.drew m s (ptrB el)) a #[.map (some m), .int .i64 came] 43 := (show Blk W4.drew a _ _ from ⟨A4.row.row⟩).grown g5 (by simp; omega)
  have e5 : Elt (mapPut W4.drew m s (ptrB el)) el s came 0 0 ⟨#[]⟩ nilP := (show Blk W4.drew el _ _ from ⟨E4.row⟩).grown g5 (by simp; have := HAM.out; omega)
  have k0 : (mapPut W4.drew m s (ptrB el)).cell? ⟨a, 0, none⟩ = some (.map (some m)) := r5.cell 0
  have k1 : (mapPut W4.drew m s (ptrB el)).cell? ⟨el, 0, none⟩ = some (.string s) := e5.cell 0
  have HB5 := Lib.hid (Off2.trans (a := a) (m := m) (Off2.of_below (show Below W.heap.size W W4.drew from b4.drew)) (Off2.turned t5))
  have HO5 := Lib.hid o5
  have HR5 := Lib.hid r5
  have HE5 := Lib.hid e5
  clear A4 E4 b4 o5 t5 g5 r5 e5
  go_wp2_with fail
  go_region_held3 (fun w' => w'.cell? ⟨a, 0, none⟩ = some (.map (some m)) ∧ w'.cell? ⟨el, 0, none⟩ = some (.string s))
    (first | (with_reducible exact ⟨k0, k1⟩) | go_keep)
    (fail)
  all_goals
    clear c0 e0 k0 k1 hmu
    obtain ⟨W5, hW5⟩ : ∃ W5, mapPut W4.drew m s (ptrB el) = W5 := ⟨_, rfl⟩
    rw [hW5] at HB5 HO5 HR5 HE5 ⊢
    have c1 : W5.cell? ⟨a, 1, none⟩ = some (.int .i64 came) := HR5.out.cell 1
    have f1 : W5.frozen? ⟨a, 1, none⟩ = false := HR5.out.fro 1
    clear hW5
    go_wp2
    go_ret
    exact ⟨el, rfl, hsz, ⟨HR5.out.set (j := 1) (u := .int .i64 (came + 1)), HO5.out.setCell (by simp; omega) _⟩, HE5.out.other (by have := HAM.out; omega), HB5.out.trans (Off2.setCell _ _ _ _ _)⟩
end Go.Proofs.Ytbbbdcohkfijoaa

namespace Go.Proofs.Ytbbbdcohkfijoaa
open Go.RowKit Go.Lib Go.Maps

theorem Blk.six {W : World} {g : Nat} {a b c d e f : Value} {t : TypeId} (h : Blk W g #[a, b, c, d, e, f] t) : (W.cell? ⟨g, 0, none⟩ = some a ∧ W.cell? ⟨g, 1, none⟩ = some b ∧ W.cell? ⟨g, 2, none⟩ = some c ∧ W.cell? ⟨g, 3, none⟩ = some d ∧ W.cell? ⟨g, 4, none⟩ = some e ∧ W.cell? ⟨g, 5, none⟩ = some f) ∧ (W.frozen? ⟨g, 0, none⟩ = false ∧ W.frozen? ⟨g, 1, none⟩ = false ∧ W.frozen? ⟨g, 2, none⟩ = false ∧ W.frozen? ⟨g, 3, none⟩ = false ∧ W.frozen? ⟨g, 4, none⟩ = false ∧ W.frozen? ⟨g, 5, none⟩ = false) :=
  ⟨⟨h.cell 0, h.cell 1, h.cell 2, h.cell 3, h.cell 4, h.cell 5⟩, ⟨h.fro 0, h.fro 1, h.fro 2, h.fro 3, h.fro 4, h.fro 5⟩⟩
/-- Set at a key that isn't there. -/
theorem set_new {W : World} {a m n : Nat} {came : Int} {D : AD} (h : Arr W a m n came D) (s : ByteArray) (hs : s.size ≤ 281474976710656) (hn : n < maxLen) (hc0 : 0 ≤ came) (hc1 : came < 1000000) (hat : D.atKey (klS s) (.held nilP) = .held nilP) (kind : Int) (N : Nat) (S : ByteArray) (hS : S.size ≤ 281474976710656) :
    Calls Try.prog 10 #[ptrB a, .string s, .agg #[.int .i64 kind, .float .f64 N, .string S]] W fun e w' => e = .returned (.int .i64 0) ∧ (∃ el, W.heap.size ≤ el ∧ Arr w' a m (n + 1) (came + 1) (D.put (klS s) (.held (ptrB el))) ∧ Elt w' el s came kind N S nilP) ∧ Off2 a m W w' := by
  have X1 := Blk.new W #[.int .i64 kind, .float .f64 N, .string S] 35
  have A1 : Arr (W.alloc (.cells #[.int .i64 kind, .float .f64 N, .string S] 35)) a m n came D := ⟨h.row.alloc _, h.own.alloc _⟩
  have b1 := (Below.refl W.heap.size W).alloc (Nat.le_refl _) (.cells #[.int .i64 kind, .float .f64 N, .string S] 35)
  have hsz : (W.alloc (.cells #[.int .i64 kind, .float .f64 N, .string S] 35)).heap.size = W.heap.size + 1 := World.size_alloc _ _
  have HAM := Lib.hid (show a < W.heap.size ∧ m < W.heap.size from ⟨h.row.lt, h.own.lt⟩)
  have c0 : (W.alloc (.cells #[.int .i64 kind, .float .f64 N, .string S] 35)).cell? ⟨a, 0, none⟩ = some (.map (some m)) := A1.row.cell 0
  have hl := look_run A1.own (s := s) (by unfold maxLen; omega) hat
  obtain ⟨W1, hW1⟩ : ∃ W1, W.alloc (.cells #[.int .i64 kind, .float .f64 N, .string S] 35) = W1 := ⟨_, rfl⟩
  rw [hW1] at X1 A1 b1 hsz
  have HW1 := Lib.hid hW1
  have CK := Lib.hid (kind_nil W1)
  have CA := Lib.hid (add_any A1 s hs hn hc0 hc1)
  have CC := Lib.hid (fun W => copied_any kind N S W hS)
  have HX1 := Lib.hid X1
  have HB1 := Lib.hid b1
  have HSZ := Lib.hid hsz
  clear X1 A1 b1 hW1 h hat hsz
  obtain ⟨B, hB⟩ : ∃ B, W.heap.size = B := ⟨_, rfl⟩
  have HBB := Lib.hid hB
  rw [hB] at HX1 HSZ HAM HB1
  clear hB
  go_enter Try.func10, Try.ntmps10
  go_wp2_with fail
  rw [HW1.out]
  clear c0 hl
  refine (show Calls _ _ _ _ _ from CK.out).mono ?_
  rintro e w' ⟨rfl, rfl⟩
  go_wp2_with fail
  refine CA.out.mono ?_
  rintro e W2 ⟨el, rfl, hel, hA, hE, hO⟩
  have X2 := HX1.out.off2 hO (by have := HAM.out; omega) (by have := HAM.out; omega)
  obtain ⟨x0, x1, x2, _, _, _⟩ := X2.three
  clear X2
  have HA := Lib.hid hA
  have HE := Lib.hid hE
  have HO := Lib.hid ((Off2.of_below (a := a) (m := m) (by rw [HBB.out]; exact HB1.out)).trans hO)
  have hel2 : B < el := by have := HSZ.out; omega
  clear hA hE hO hel CK CA
  rw [HBB.out]
  go_wp2_with fail
  refine (CC.out _).mono ?_
  rintro e W3 ⟨rfl, h3⟩
  clear x0 x1 x2
  have hE3 := HE.out.below h3 HE.out.lt
  obtain ⟨⟨q0, q1, q2, q3, q4, q5⟩, ⟨r0, r1, r2, r3, r4, r5⟩⟩ := hE3.six
  have hst := as_store_float
  have HA3 := Lib.hid (HA.out.kept h3)
  have HO3 := Lib.hid (HO.out.trans (Off2.of_below h3))
  have HE3 := Lib.hid hE3
  clear hE3 h3 HA HE HO CC
  go_wp2_with fail
  go_ret
  have h1 : W.heap.size ≤ el := by have := HBB.out; omega
  have ha : a ≠ el := by have := HAM.out; omega
  have hm : m ≠ el := by have := HAM.out; omega
  exact ⟨rfl, ⟨el, h1, ((HA3.out.setCell (p := ⟨el, 2, none⟩) ha hm _).setCell (p := ⟨el, 3, none⟩) ha hm _).setCell (p := ⟨el, 4, none⟩) ha hm _, ((HE3.out.set (j := 2) (u := .int .i64 kind)).set (j := 3) (u := .float .f64 N)).set (j := 4) (u := .string S)⟩, ((HO3.out.fresh (p := ⟨el, 2, none⟩) h1 _).fresh (p := ⟨el, 3, none⟩) h1 _).fresh (p := ⟨el, 4, none⟩) h1 _⟩
/-- Set at a key that an array has. -/
theorem set_arr {W : World} {a m n e sb : Nat} {came : Int} {D : AD} (h : Arr W a m n came D) (s : ByteArray) (hs : s.size ≤ 281474976710656) (hat : D.atKey (klS s) (.held nilP) = .held (ptrB e)) {key : ByteArray} {num kd : Int} {M : Nat} {T : ByteArray} (hE : Elt W e key num kd M T (ptrB sb)) (kind : Int) (N : Nat) (S : ByteArray) :
    Calls Try.prog 10 #[ptrB a, .string s, .agg #[.int .i64 kind, .float .f64 N, .string S]] W fun e w' => e = .returned (.int .i64 80) ∧ Below W.heap.size W w' := by
  have b1 := (Below.refl W.heap.size W).alloc (Nat.le_refl _) (.cells #[.int .i64 kind, .float .f64 N, .string S] 35)
  have A1 := h.kept b1
  have E1 := hE.below b1 hE.lt
  have c0 : (W.alloc (.cells #[.int .i64 kind, .float .f64 N, .string S] 35)).cell? ⟨a, 0, none⟩ = some (.map (some m)) := A1.row.cell 0
  have hl := look_run A1.own (s := s) (by unfold maxLen; omega) hat
  have CK := Lib.hid (kind_arr E1)
  have HB1 := Lib.hid b1
  clear h hE A1 E1 b1 hat
  go_enter Try.func10, Try.ntmps10
  go_wp2_with fail
  refine (show Calls _ _ _ _ _ from CK.out).mono ?_
  rintro e w' ⟨rfl, rfl⟩
  go_wp2_with fail
  go_ret
  exact ⟨rfl, HB1.out⟩
/-- Get, of a value. -/
theorem get_val {W : World} {a m n e : Nat} {came : Int} {D : AD} (h : Arr W a m n came D) (s : ByteArray) (hs : s.size ≤ 281474976710656) (hat : D.atKey (klS s) (.held nilP) = .held (ptrB e)) {key : ByteArray} {num kind : Int} {N : Nat} {S : ByteArray} (hE : Elt W e key num kind N S nilP) (hS : S.size ≤ 281474976710656) :
    Calls Try.prog 12 #[ptrB a, .string s] W fun e w' => e = .returned (.tuple #[.agg #[.int .i64 kind, .float .f64 N, .string S], .bool true]) ∧ Below W.heap.size W w' := by
  have b1 := (Below.refl W.heap.size W).alloc (Nat.le_refl _) (.cells #[.int .i64 0, .float .f64 0, .string ⟨#[]⟩] 35)
  have R1 := Blk.new W #[.int .i64 0, .float .f64 0, .string ⟨#[]⟩] 35
  have A1 := h.kept b1
  have E1 := hE.below b1 hE.lt
  obtain ⟨W1, hW1⟩ : ∃ W1, W.alloc (.cells #[.int .i64 0, .float .f64 0, .string ⟨#[]⟩] 35) = W1 := ⟨_, rfl⟩
  rw [hW1] at b1 R1 A1 E1
  have HW1 := Lib.hid hW1
  have CH := Lib.hid (held_any A1)
  have hl := look_run A1.own (s := s) (by unfold maxLen; omega) hat
  have CK := Lib.hid (kind_val E1)
  have CC := Lib.hid (fun W => copied_any kind N S W hS)
  have HB1 := Lib.hid b1
  have HR1 := Lib.hid R1
  obtain ⟨⟨_, _, q2, q3, q4, _⟩, _⟩ := E1.six
  clear h hE A1 E1 b1 hat hW1 R1
  go_enter Try.func12, Try.ntmps12
  go_wp2_with fail
  rw [HW1.out]
  refine CH.out.mono ?_
  rintro e w' ⟨rfl, rfl⟩
  go_wp2_with fail
  refine (show Calls _ _ _ _ _ from CK.out).mono ?_
  rintro e w' ⟨rfl, rfl⟩
  go_wp2_with fail
  refine (CC.out _).mono ?_
  rintro e W2 ⟨rfl, h2⟩
  clear q2 q3 q4 hl
  have R2 := HR1.out.below h2 HR1.out.lt
  have B2 := HB1.out.trans (h2.mono HB1.out.size)
  obtain ⟨u0, u1, u2, s0, s1, s2⟩ := R2.three
  have hst := as_store_float
  obtain ⟨z, hz⟩ := as_end3 (.int .i64 kind) (.float .f64 N) (.string S) R2 B2 (Nat.le_refl _)
  have Z := Lib.hid z
  have HZ := Lib.hid hz
  clear z hz R2 B2 h2
  go_wp2_with fail
  clear u0 u1 u2 s0 s1 s2
  obtain ⟨q0, q1, q2, -⟩ := Z.out.three
  exact bodyPost_ret (v := .tuple #[.agg #[.int .i64 kind, .float .f64 N, .string S], .bool true]) (by simp [results, Try.results12, go_sem, q0, q1, q2]) rfl ⟨rfl, HZ.out⟩
end Go.Proofs.Ytbbbdcohkfijoaa

namespace Go.Proofs.Ytbbbdcohkfijoaa
open Go.RowKit Go.Lib Go.Maps

/-- Sub at a key that isn't there. -/
theorem sub_new {W : World} {a m n : Nat} {came : Int} {D : AD} (h : Arr W a m n came D) (s : ByteArray) (hs : s.size ≤ 281474976710656) (hn : n < maxLen) (hc0 : 0 ≤ came) (hc1 : came < 1000000) (hat : D.atKey (klS s) (.held nilP) = .held nilP) :
    Calls Try.prog 6 #[ptrB a, .string s] W fun e w' => ∃ el sb mb, e = .returned (.tuple #[ptrB sb, .int .i64 0]) ∧ W.heap.size ≤ el ∧ el < sb ∧ el < mb ∧ Arr w' a m (n + 1) (came + 1) (D.put (klS s) (.held (ptrB el))) ∧ Elt w' el s came 0 0 ⟨#[]⟩ (ptrB sb) ∧ Arr w' sb mb 0 0 (.map []) ∧ Off2 a m W w' := by
  have c0 : W.cell? ⟨a, 0, none⟩ = some (.map (some m)) := h.row.cell 0
  have hl := look_run h.own (s := s) (by unfold maxLen; omega) hat
  have HAM := Lib.hid (show a < W.heap.size ∧ m < W.heap.size from ⟨h.row.lt, h.own.lt⟩)
  have CK := Lib.hid (kind_nil W)
  have CA := Lib.hid (add_any h s hs hn hc0 hc1)
  have CN := Lib.hid new_any
  clear h hat
  go_enter Try.func6, Try.ntmps6
  go_wp2_with fail
  clear c0 hl
  refine (show Calls _ _ _ _ _ from CK.out).mono ?_
  rintro e w' ⟨rfl, rfl⟩
  go_wp2_with fail
  refine CA.out.mono ?_
  rintro e W2 ⟨el, rfl, hel, hA, hE, hO⟩
  have HA := Lib.hid hA
  have HE := Lib.hid hE
  have HO := Lib.hid hO
  clear hA hE hO CK CA
  go_wp2_with fail
  refine (CN.out _).mono ?_
  rintro e W3 ⟨sb, mb, rfl, hN, hsb, hmb, h3⟩
  have hlt := HE.out.lt
  have h1 : el < sb := by omega
  have h2 : el < mb := by omega
  have hE3 := HE.out.below h3 hlt
  obtain ⟨⟨_, _, _, _, _, q5⟩, ⟨_, _, _, _, _, r5⟩⟩ := hE3.six
  have HA3 := Lib.hid (HA.out.kept h3)
  have HO3 := Lib.hid (HO.out.trans (Off2.of_below h3))
  have HE3 := Lib.hid hE3
  have HN := Lib.hid hN
  clear hE3 h3 HA HE HO CN hN hlt hsb hmb
  go_wp2_with fail
  go_ret2
  have ha : a ≠ el := by have := HAM.out; omega
  have hm : m ≠ el := by have := HAM.out; omega
  exact ⟨el, sb, mb, rfl, hel, h1, h2, HA3.out.setCell (p := ⟨el, 5, none⟩) ha hm _, HE3.out.set (j := 5) (u := ptrB sb), HN.out.setCell (p := ⟨el, 5, none⟩) (by simp; omega) (by simp; omega) _, HO3.out.fresh (p := ⟨el, 5, none⟩) hel _⟩
/-- Sub at a key that an array has. -/
theorem sub_arr {W : World} {a m n e sb : Nat} {came : Int} {D : AD} (h : Arr W a m n came D) (s : ByteArray) (hs : s.size ≤ 281474976710656) (hat : D.atKey (klS s) (.held nilP) = .held (ptrB e)) {key : ByteArray} {num kd : Int} {M : Nat} {T : ByteArray} (hE : Elt W e key num kd M T (ptrB sb)) :
    Calls Try.prog 6 #[ptrB a, .string s] W fun e w' => e = .returned (.tuple #[ptrB sb, .int .i64 0]) ∧ W = w' := by
  have c0 : W.cell? ⟨a, 0, none⟩ = some (.map (some m)) := h.row.cell 0
  have hl := look_run h.own (s := s) (by unfold maxLen; omega) hat
  have CK := Lib.hid (kind_arr hE)
  obtain ⟨⟨_, _, _, _, _, q5⟩, _⟩ := hE.six
  clear h hE hat
  go_enter Try.func6, Try.ntmps6
  go_wp2_with fail
  refine (show Calls _ _ _ _ _ from CK.out).mono ?_
  rintro e w' ⟨rfl, rfl⟩
  go_wp2_with fail
  go_ret2
  exact ⟨rfl, rfl⟩
/-- Sub at a key that a value has. -/
theorem sub_val {W : World} {a m n e : Nat} {came : Int} {D : AD} (h : Arr W a m n came D) (s : ByteArray) (hs : s.size ≤ 281474976710656) (hat : D.atKey (klS s) (.held nilP) = .held (ptrB e)) {key : ByteArray} {num kd : Int} {M : Nat} {T : ByteArray} (hE : Elt W e key num kd M T nilP) :
    Calls Try.prog 6 #[ptrB a, .string s] W fun e w' => e = .returned (.tuple #[nilP, .int .i64 80]) ∧ W = w' := by
  have c0 : W.cell? ⟨a, 0, none⟩ = some (.map (some m)) := h.row.cell 0
  have hl := look_run h.own (s := s) (by unfold maxLen; omega) hat
  have CK := Lib.hid (kind_val hE)
  clear h hE hat
  go_enter Try.func6, Try.ntmps6
  go_wp2_with fail
  refine (show Calls _ _ _ _ _ from CK.out).mono ?_
  rintro e w' ⟨rfl, rfl⟩
  go_wp2_with fail
  go_ret2
  exact ⟨rfl, rfl⟩
end Go.Proofs.Ytbbbdcohkfijoaa

namespace Go.Proofs.Ytbbbdcohkfijoaa
open Go.RowKit Go.Lib Go.Maps

/-- How much an element counts, whatever has turned since. -/
def Counts (W : World) (e : Nat) (t : Int) : Prop := (∃ key num kd M T, Elt W e key num kd M T nilP ∧ t = 1) ∨ ∃ key num kd M T sb, Elt W e key num kd M T (ptrB sb) ∧ ∀ W', Below W.heap.size W W' → Calls Try.prog 9 #[ptrB sb] W' fun e w' => e = .returned (.int .i64 t) ∧ Below W'.heap.size W' w'
theorem at_next_mem {W : World} {m n : Nat} {es : List (Lit × AD)} (h : W.ownsMap Try.prog 9 asR m n (.map es)) : es.Pairwise (fun p q => p.1 ≠ q.1) ∧ ∀ p ∈ es, WideAt.IsKeyLit p.1 := by
  obtain ⟨es', h1, h2, h3⟩ := h.entries law_s
  injection h1 with h1
  subst h1
  exact ⟨h2, h3⟩
theorem totL_bd (T : Lit → Int) (left : Lit → Bool) : ∀ {es : List (Lit × AD)}, (∀ p ∈ es, 0 ≤ T p.1 ∧ T p.1 ≤ 1000) → 0 ≤ totL T left es ∧ totL T left es ≤ 1000 * (es.length : Int) := by
  intro es
  induction es with
  | nil => intro _; exact ⟨Int.le_refl 0, Int.le_refl 0⟩
  | cons p es ih =>
    intro h
    obtain ⟨h1, h2⟩ := ih (fun q hq => h q (List.mem_cons_of_mem _ hq))
    obtain ⟨g1, g2⟩ := h p (List.mem_cons_self ..)
    have e : totL T left (p :: es) = (if left p.1 = true then 0 else T p.1) + totL T left es := by unfold totL; rw [List.map_cons, List.sum_cons]
    rw [e, List.length_cons]
    split <;> omega
set_option maxHeartbeats 1000000 in
theorem total_any {W : World} {a m n : Nat} {came : Int} {es : List (Lit × AD)} (h : Arr W a m n came (.map es)) (T : Lit → Int) (hT : ∀ p ∈ es, 0 ≤ T p.1 ∧ T p.1 ≤ 1000) (hlen : es.length ≤ 1000000) (hE : ∀ p ∈ es, ∃ e, p.2 = .held (ptrB e) ∧ Counts W e (T p.1)) :
    Calls Try.prog 9 #[ptrB a] W fun e w' => e = .returned (.int .i64 (totA T es)) ∧ Below W.heap.size W w' := by
  have CH := Lib.hid (held_any h)
  obtain ⟨hap, hkey⟩ := at_next_mem h.own
  have HO := Lib.hid h.own
  have hm : m < W.heap.size := h.own.lt
  have HE := Lib.hid hE
  have HTT := Lib.hid hT
  clear h hE hT
  go_enter Try.func9, Try.ntmps9
  go_wp2_with fail
  refine CH.out.mono ?_
  rintro e w' ⟨rfl, rfl⟩
  have hown := HO.out
  go_wp2_with (first
    | (at_range; refine wpList_range_own _ rfl _ 41 rfl 9 44 law_s Try.underlying41 _ m n _ rfl hown ?_; intro w0 hrg0 hg0 hs0)
    | go_in)
  go_frame
  have HA := Lib.hid hap
  have HK := Lib.hid hkey
  have hB0 : Below W.heap.size W w0 := ⟨hg0.os, hg0.tape, hg0.output, hg0.size, fun i hi => hg0.block i hi (by simp)⟩
  clear hap hkey hg0 hs0 hown CH
  go_loopw [3, 5] (fun t _ wr => ∃ (left : Lit → Bool) (cnt : Nat), t = .int .i64 (totL T left es) ∧ wr.ranges Try.prog 9 asR m W.heap.size n (.map es) left cnt ∧ Below W.heap.size W wr) (fun _ _ wr => wr.rangeLeft m W.heap.size)
  case atStart => exact ⟨_, _, as_vint (totL_has T HK.out).symm, hrg0, hB0⟩
  case round =>
    clear hrg0 hB0
    obtain ⟨left, cnt, rfl, hrg, hB⟩ := hrel
    go_wp2_with (first
      | (at_next; refine wpList_next_ranges _ rfl _ rfl 9 law_s asR (fun v : Value => v) (fun v : Value => v) (fun key _ _ => ⟨key, rfl⟩) (fun v _ _ => ⟨v, rfl⟩) m W.heap.size n _ _ _ rfl hrg ?_ ?_)
      | go_in)
    · intro _ hl0
      have e : totL T left es = totA T es := totL_none T hl0 es
      rw [e]
      go_wp2
      go_ret
      exact ⟨rfl, hB⟩
    · intro x c kl y ps w1 cnt1 hkeq hlx hy hat hrg1 hlt hg1 hs1 hen
      have hk : WideAt.IsKeyLit kl := law_s.key hkeq
      obtain ⟨q, hq, hq1, hq2⟩ := mem_of_at hk HA.out hat
      obtain ⟨el, he1, he2⟩ := HE.out q hq
      have hc : c = ptrB el := by
        unfold asR at hy
        simp only [Option.some.injEq, Prod.mk.injEq] at hy
        have h2 := hy.1.trans (hq2.symm.trans he1)
        injection h2
      subst hc
      have hst : totL T (fun z => left z && !z.sameKey kl) es = totL T left es + T kl := totL_strike T hlx HA.out HK.out ⟨q, hq, hq1⟩
      have hb1 := totL_bd T left HTT.out
      have hb2 := totL_bd T (fun z => left z && !z.sameKey kl) HTT.out
      rw [hst] at hb2
      have HST := Lib.hid hst
      have hB1 : Below W.heap.size W w1 := hB.grown hg1 hB.size (fun z e => by injection e with e; omega)
      have hle := hrg.left_eq
      have HL := Lib.hid hle
      rw [hq1] at he2
      have HRG := Lib.hid hrg1
      have HB1 := Lib.hid hB1
      have hlen2 : (es.length : Int) ≤ 1000000 := by omega
      obtain ⟨t, ht⟩ : ∃ t, T kl = t := ⟨_, rfl⟩
      obtain ⟨u, hu⟩ : ∃ u, totL T left es = u := ⟨_, rfl⟩
      rw [ht] at hb2 he2
      rw [hu] at hb1 hb2 ⊢
      have HT2 := Lib.hid ht
      have HU := Lib.hid hu
      clear hk hq hq1 hq2 he1 hy hst hat hkeq hlx hg1 hs1 hrg hrg1 hB hB1 hle ht hu
      rcases he2 with ⟨key, num, kd, M, S, hE, rfl⟩ | ⟨key, num, kd, M, S, sb, hE, hC⟩
      · have CK := Lib.hid (kind_val (hE.below HB1.out hE.lt))
        clear hE
        go_wp2_with fail
        refine (show Calls _ _ _ _ _ from CK.out).mono ?_
        rintro e w' ⟨rfl, rfl⟩
        go_wp2_with fail
        go_roundw
        case rel => exact ⟨_, _, as_vint (by rw [HST.out, HU.out, HT2.out]), HRG.out, HB1.out⟩
        case measure => rw [HRG.out.left_eq, HL.out]; omega
      · have hE1 := hE.below HB1.out hE.lt
        have CK := Lib.hid (kind_arr hE1)
        have CC := Lib.hid (hC _ HB1.out)
        obtain ⟨⟨_, _, _, _, _, q5⟩, _⟩ := hE1.six
        clear hE hE1 hC
        go_wp2_with fail
        refine (show Calls _ _ _ _ _ from CK.out).mono ?_
        rintro e w' ⟨rfl, rfl⟩
        go_wp2_with fail
        refine CC.out.mono ?_
        rintro e w2 ⟨rfl, h2⟩
        have HB2 := Lib.hid (HB1.out.trans (h2.mono HB1.out.size))
        have HRG2 := Lib.hid (HRG.out.kept (below_grown h2) (by simp) (by simp))
        clear q5 h2 hen
        go_wp2_with fail
        go_roundw
        case rel => exact ⟨_, _, as_vint (by rw [HST.out, HU.out, HT2.out]), HRG2.out, HB2.out⟩
        case measure => rw [HRG2.out.left_eq, HL.out]; omega
end Go.Proofs.Ytbbbdcohkfijoaa

namespace Go.Proofs.Ytbbbdcohkfijoaa
open Go.RowKit Go.Lib Go.Maps

theorem total_empty {W : World} {a m n : Nat} {came : Int} (h : Arr W a m n came (.map [])) : Calls Try.prog 9 #[ptrB a] W fun e w' => e = .returned (.int .i64 0) ∧ Below W.heap.size W w' :=
  total_any h (fun _ => 0) (fun p hp => by cases hp) (by simp) (fun p hp => by cases hp)
theorem total_one {W : World} {a m n e : Nat} {came : Int} {k : ByteArray} (h : Arr W a m n came (.map [(klS k, .held (ptrB e))])) {t : Int} (ht : 0 ≤ t ∧ t ≤ 1000) (hC : Counts W e t) : Calls Try.prog 9 #[ptrB a] W fun e w' => e = .returned (.int .i64 t) ∧ Below W.heap.size W w' := by
  have := total_any h (fun _ => t) (fun p _ => ht) (by simp) (fun p hp => by
    rw [List.mem_singleton] at hp
    subst hp
    exact ⟨e, rfl, hC⟩)
  have e1 : totA (fun _ => t) [(klS k, .held (ptrB e))] = t := by unfold totA; simp
  rw [e1] at this
  exact this
theorem total_chain {t : Int} (ht : 0 ≤ t ∧ t ≤ 1000) : ∀ {l : List (ByteArray × Nat × Nat)} {W : World} {lo a z hi : Nat}, Chain W lo l a z hi → hi ≤ W.heap.size → (∀ W', Below W.heap.size W W' → Calls Try.prog 9 #[ptrB z] W' fun e w' => e = .returned (.int .i64 t) ∧ Below W'.heap.size W' w') → Calls Try.prog 9 #[ptrB a] W fun e w' => e = .returned (.int .i64 t) ∧ Below W.heap.size W w' := by
  intro l
  induction l with
  | nil =>
    intro W lo a z hi h _ hC
    obtain ⟨rfl, _⟩ := h
    exact hC W (Below.refl _ _)
  | cons p l ih =>
    intro W lo a z hi h hhi hC
    obtain ⟨k, m, e⟩ := p
    obtain ⟨_, _, _, _, h5, a', h6, h7⟩ := h
    refine total_one h5 ht (Or.inr ⟨k, 0, 0, 0, ⟨#[]⟩, a', h6, fun W' hb => ?_⟩)
    exact ih (chain_below hb hhi h7) (Nat.le_trans hhi hb.size) (fun W2 hb2 => hC W2 (hb.trans (hb2.mono hb.size)))
def kX : ByteArray := ⟨#[120]⟩
def kY : ByteArray := ⟨#[121]⟩
def kZ : ByteArray := ⟨#[122]⟩
theorem d_xy (u v : AD) : ((DataW.map [(klS kX, u)] : AD).put (klS kY) v) = .map [(klS kX, u), (klS kY, v)] := by rfl
theorem d_xn (u z : AD) : (DataW.map [(klS kX, u)] : AD).atKey (klS kY) z = z := by rfl
theorem d_x (u v z : AD) : (DataW.map [(klS kX, u), (klS kY, v)] : AD).atKey (klS kX) z = u := by rfl
theorem d_y (u v z : AD) : (DataW.map [(klS kX, u), (klS kY, v)] : AD).atKey (klS kY) z = v := by rfl
set_option maxRecDepth 100000 in
set_option maxHeartbeats 4000000 in
theorem asFixed_any (w : World) : Calls Try.prog 4 #[] w fun e w' => e = .returned (.bool true) ∧ Below w.heap.size w w' := by
  have CN := Lib.hid (new_any w)
  obtain ⟨B, hB⟩ : ∃ B, w.heap.size = B := ⟨_, rfl⟩
  rw [hB] at CN ⊢
  have HB := Lib.hid hB
  clear hB
  go_enter Try.func4, Try.ntmps4
  go_wp2_with fail
  refine CN.out.mono ?_
  rintro e W1 ⟨a, m, rfl, hA, ha, hm, h1⟩
  have HA1 := Lib.hid hA
  have HB1 := Lib.hid h1
  have hB1 : B ≤ W1.heap.size := by have := h1.size; have := HB.out; omega
  clear hA h1 CN
  go_wp2_with fail
  refine (asOf_any 4607182418800017408 W1).mono ?_
  rintro e W2 ⟨rfl, h2⟩
  have HA2 := Lib.hid (HA1.out.kept h2)
  have HB2 := Lib.hid (HB1.out.trans (h2.mono hB1))
  have hB2 : B ≤ W2.heap.size := Nat.le_trans hB1 h2.size
  clear h2 HA1 HB1 hB1
  go_wp2_with fail
  refine (set_new HA2.out kX (by decide) (by decide) (by decide) (by decide) rfl 1 4607182418800017408 ⟨#[]⟩ (by decide)).mono ?_
  rintro e W3 ⟨rfl, ⟨e1, he1, hA, hE1⟩, hO⟩
  have HA3 := Lib.hid (show Arr W3 a m 1 1 (.map [(klS kX, .held (ptrB e1))]) from hA)
  have HE3 := Lib.hid hE1
  have HB3 := Lib.hid (HB2.out.trans (hO.below ha hm hB2))
  have hB3 : B ≤ W3.heap.size := Nat.le_trans hB2 hO.size
  have hae1 : a < e1 ∧ m < e1 ∧ B ≤ e1 ∧ e1 < W3.heap.size := ⟨by have := HA2.out.row.lt; omega, by have := HA2.out.own.lt; omega, by omega, hE1.lt⟩
  clear hA hE1 hO HA2 HB2 hB2 he1
  go_wp2_with fail
  refine (sub_new HA3.out kY (by decide) (by decide) (by decide) (by decide) (d_xn _ _)).mono ?_
  rintro e W4 ⟨e2, b, mb, rfl, he2, hb, hmb, hA, hE2, hBb, hO⟩
  rw [d_xy] at hA
  have HA4 := Lib.hid hA
  have HE4 := Lib.hid (HE3.out.off2 hO (by omega) (by omega))
  have HF4 := Lib.hid hE2
  have HBA4 := Lib.hid hBb
  have HB4 := Lib.hid (HB3.out.trans (hO.below ha hm hB3))
  have hB4 : B ≤ W4.heap.size := Nat.le_trans hB3 hO.size
  have hord : a < e2 ∧ m < e2 ∧ e1 < e2 ∧ B ≤ e2 ∧ B ≤ b ∧ B ≤ mb := by omega
  clear hA hE2 hBb hO HA3 HE3 HB3 hB3 he2
  go_wp2_with fail
  refine (asText_any ⟨#[116]⟩ W4).mono ?_
  rintro e W5 ⟨rfl, h5⟩
  have HA5 := Lib.hid (HA4.out.kept h5)
  have HE5 := Lib.hid (HE4.out.below h5 HE4.out.lt)
  have HF5 := Lib.hid (HF4.out.below h5 HF4.out.lt)
  have HBA5 := Lib.hid (HBA4.out.kept h5)
  have HB5 := Lib.hid (HB4.out.trans (h5.mono hB4))
  have hB5 : B ≤ W5.heap.size := Nat.le_trans hB4 h5.size
  clear h5 HA4 HE4 HF4 HBA4 HB4 hB4
  go_wp2_with fail
  refine (set_new HBA5.out kZ (by decide) (by decide) (by decide) (by decide) rfl 2 0 ⟨#[116]⟩ (by decide)).mono ?_
  rintro e W6 ⟨rfl, ⟨e3, he3, hA, hE3⟩, hO⟩
  have HA6 := Lib.hid (HA5.out.off2 hO (by omega) (by omega) (by omega) (by omega))
  have HE6 := Lib.hid (HE5.out.off2 hO (by omega) (by omega))
  have HF6 := Lib.hid (HF5.out.off2 hO (by omega) (by omega))
  have HBA6 := Lib.hid (show Arr W6 b mb 1 1 (.map [(klS kZ, .held (ptrB e3))]) from hA)
  have HG6 := Lib.hid hE3
  have HB6 := Lib.hid (HB5.out.trans (hO.below hord.2.2.2.2.1 hord.2.2.2.2.2 hB5))
  have hB6 : B ≤ W6.heap.size := Nat.le_trans hB5 hO.size
  clear hA hE3 hO HA5 HE5 HF5 HBA5 HB5 hB5 he3
  go_wp2_with fail
  refine (sub_val HA6.out kX (by decide) (d_x _ _ _) HE6.out).mono ?_
  rintro e w' ⟨rfl, rfl⟩
  go_wp2_with fail
  refine (set_arr HA6.out kY (by decide) (d_y _ _ _) HF6.out 0 0 ⟨#[]⟩).mono ?_
  rintro e W7 ⟨rfl, h7⟩
  have HA7 := Lib.hid (HA6.out.kept h7)
  have HE7 := Lib.hid (HE6.out.below h7 HE6.out.lt)
  have HF7 := Lib.hid (HF6.out.below h7 HF6.out.lt)
  have HBA7 := Lib.hid (HBA6.out.kept h7)
  have HG7 := Lib.hid (HG6.out.below h7 HG6.out.lt)
  have HB7 := Lib.hid (HB6.out.trans (h7.mono hB6))
  have hB7 : B ≤ W7.heap.size := Nat.le_trans hB6 h7.size
  clear h7 HA6 HE6 HF6 HBA6 HB6 hB6 HG6
  go_wp2_with fail
  refine (len_any HA7.out).mono ?_
  rintro e w' ⟨rfl, rfl⟩
  go_wp2_with fail
  refine (total_any HA7.out (fun _ => 1) (fun _ _ => ⟨by decide, by decide⟩) (by simp) (fun p hp => by
    rcases List.mem_cons.1 hp with rfl | hp
    · exact ⟨e1, rfl, Or.inl ⟨_, _, _, _, _, HE7.out, rfl⟩⟩
    · rw [List.mem_singleton] at hp
      subst hp
      exact ⟨e2, rfl, Or.inr ⟨_, _, _, _, _, b, HF7.out, fun W' hb => total_one (HBA7.out.kept hb) ⟨by decide, by decide⟩ (Or.inl ⟨_, _, _, _, _, HG7.out.below hb HG7.out.lt, rfl⟩)⟩⟩)).mono ?_
  rintro e W8 ⟨rfl, h8⟩
  have HB8 := Lib.hid (HB7.out.trans (h8.mono hB7))
  have HA8 := Lib.hid (HA7.out.kept h8)
  have HF8 := Lib.hid (HF7.out.below h8 HF7.out.lt)
  clear h8 HA7 HE7 HF7 HBA7 HG7 HB7
  go_wp2_with fail
  refine (kindKey_any HA8.out kY (by decide) (d_y _ _ _) (kind_arr HF8.out)).mono ?_
  rintro e w' ⟨rfl, rfl⟩
  go_wp2_with fail
  go_ret
  exact ⟨rfl, by rw [← HB.out]; have := HB8.out; rw [← HB.out] at this; exact this⟩
end Go.Proofs.Ytbbbdcohkfijoaa

namespace Go.Proofs.Ytbbbdcohkfijoaa

/-- All that is known of the numbers that are guessed by: the divisor's two top limbs, the dividend's three. -/
structure GuessOk (B P Dl v1 v0 Nl u2 u1 u0 : Nat) : Prop where
  hP : 0 < P
  hDl : Dl < P
  hNl : Nl < P
  hv0 : v0 < B
  hv1 : v1 < B
  hu0 : u0 < B
  htop : B ≤ 2 * v1
  hB2 : 2 ≤ B
  hless : Nl + P * (u0 + B * (u1 + B * u2)) < B * (Dl + P * (v0 + B * v1))
section
variable {B P Dl v1 v0 Nl u2 u1 u0 : Nat} (h : GuessOk B P Dl v1 v0 Nl u2 u1 u0)
include h
end

section
variable {B D A : Nat} {cur qs : List Nat} {i n : Nat}
end
end Go.Proofs.Ytbbbdcohkfijoaa

namespace Go.Proofs.Ytbbbdcohkfijoaa
open Go.RowKit Go.ChangeShapes Go.WideShapes

theorem cells_str : Try.prog.cellsOf 9 = 1 := by kernel_rfl
/-- Its strings lie there. -/
def RdS (W : World) (A : Option Addr) (ss : List ByteArray) : Prop := ∀ j (_ : j < ss.length), ∃ b off, A = some ⟨b, off, none⟩ ∧ W.cell? ⟨b, off + j, none⟩ = some (.string ss[j])
theorem RdS.below {W W' : World} {A : Option Addr} {ss : List ByteArray} (h : RdS W A ss) (hb : Below W.heap.size W W') : RdS W' A ss := fun j hj => by
  obtain ⟨b, off, e, hc⟩ := h j hj
  exact ⟨b, off, e, (hb.cell (World.block_lt_of_cell? W _ hc)).trans hc⟩
theorem mem_weightsAll {H : Type} {P : Program} {e : TypeId} {d : DataW H} {x : Nat} : ∀ {l : List (DataW H)}, d ∈ l → x ∈ DataW.weights P e d → x ∈ DataW.weightsAll P e l := by
  intro l
  induction l with
  | nil => intro h; cases h
  | cons d0 l ih =>
    intro h hx
    unfold DataW.weightsAll
    rcases List.mem_cons.1 h with rfl | h
    · exact List.mem_append_left _ hx
    · exact List.mem_append_right _ (ih h hx)
set_option maxRecDepth 100000 in
theorem open_strsA {H : Type} {enc : TypeId × Value → H} {W : World} {v : Value} {d : DataW H} {p : List MemPlace} {base : Nat} (hv : Value.okWide Try.prog W .any base 22 v) (h : DataW.Trod enc Try.prog W 0 (fun _ => true) true 22 v d p) :
    ∃ (A : Option Addr) (cap : Nat) (ss : List ByteArray), v = .slice A ss.length cap ∧ ss.length ≤ cap ∧ cap ≤ maxLen ∧ (A = none → cap = 0) ∧ (∀ s ∈ ss, s.size ≤ maxLen) ∧ RdS W A ss ∧ (∀ W', Below W.heap.size W W' → DataW.Trod enc Try.prog W' 0 (fun b => decide (b < W.heap.size)) true 22 (.slice A ss.length cap) d p) ∧ ((∀ z ∈ DataW.weights Try.prog 22 d, z ≤ 140737488351232) → ∀ s ∈ ss, s.size ≤ 140737488351232) := by
  obtain ⟨a0, len, cap, rfl⟩ := okWide_slice Try.underlying22 hv
  obtain ⟨fuel, hf⟩ := h
  rcases Go.Deep.open_strs Try.underlying22 Try.underlying9 cells_str hf with ⟨hcs, hx⟩ | ⟨a, len', cap', m, Sx, hcs, _, hl, hm, hmm, hx, hcell⟩
  · simp [Value.cells] at hcs
    obtain ⟨rfl, rfl, rfl⟩ := hcs
    simp only [Prod.mk.injEq] at hx
    obtain ⟨rfl, rfl⟩ := hx
    exact ⟨none, 0, [], rfl, Nat.le_refl _, Nat.zero_le _, fun _ => rfl, fun s hs => (by cases hs), fun j hj => absurd hj (Nat.not_lt_zero _), fun W' _ => shut_slice_nil Try.underlying22, fun _ s hs => (by cases hs)⟩
  · simp [Value.cells] at hcs
    obtain ⟨rfl, rfl, rfl⟩ := hcs
    simp only [if_true] at hmm
    subst hmm
    simp only [Prod.mk.injEq] at hx
    obtain ⟨rfl, rfl⟩ := hx
    have hlen : ((List.range len).map Sx).length = len := by rw [List.length_map, List.length_range]
    refine ⟨some a, m, (List.range len).map Sx, by rw [hlen], by rw [hlen]; exact hl, hm, (fun e => by cases e), ?_, ?_, fun W' hB => ?_, fun hz s hs => ?_⟩
    · intro s hs
      obtain ⟨i, hi, rfl⟩ := List.mem_map.1 hs
      exact (hcell i (by have := List.mem_range.1 hi; omega)).2
    · intro j hj
      rw [hlen] at hj
      obtain ⟨b, off, spot⟩ := a
      have h0 := (hcell j (by omega)).1
      have hspot : spot = none := by simpa [Addr.add] using World.cell?_spot (hcell 0 (by omega)).1
      subst hspot
      refine ⟨b, off, rfl, ?_⟩
      rw [← Go.WideShapes.add_plain, h0]
      simp
    · rw [hlen]
      have one : ∀ i, i < m → ∃ cs n, W'.cells? 0 (a.add (i * Try.prog.cellsOf 9)) (Try.prog.cellsOf 9) = some cs ∧ DataW.trod enc Try.prog W' 0 (fun b => decide (b < W.heap.size)) true n 9 cs = some ((.lit (.string (Sx i).data.toList)), []) := fun i hi => by
        obtain ⟨n, hn⟩ := Go.Deep.shut_string_cell (enc := enc) (P := Try.prog) (w := W') (base := 0) (spare := fun b => decide (b < W.heap.size)) (held := true) Try.underlying9 (hcell i hi).2
        refine ⟨[.string (Sx i)], n, ?_, hn⟩
        rw [cells_str, Nat.mul_one]
        refine cells?_one (Nat.zero_le _) ?_
        exact (hB.cell (World.block_lt_of_cell? W _ (hcell i hi).1)).trans (hcell i hi).1
      cases hsp : decide (a.block < W.heap.size) with
      | true =>
        have := Go.Deep.shut_slice_whole_cells (enc := enc) (P := Try.prog) (w := W') (base := 0) (spare := fun b => decide (b < W.heap.size)) (held := true) (a := a) (t := 22) Try.underlying22 (Nat.zero_le _) hl hm hsp (fun i => .lit (.string (Sx i).data.toList)) (fun _ => []) one
        rw [cells_str, Nat.mul_one, Go.Deep.flatMap_nils, List.append_nil] at this
        exact this
      | false =>
        have hc0 : m = 0 := by
          rcases Nat.eq_zero_or_pos m with h0 | h0
          · exact h0
          · have := World.block_lt_of_cell? W _ (hcell 0 h0).1
            have e : (a.add 0).block = a.block := rfl
            rw [e] at this
            rw [decide_eq_true this] at hsp
            cases hsp
        subst hc0
        obtain rfl : len = 0 := by omega
        have := Go.Deep.shut_slice_cells (enc := enc) (P := Try.prog) (w := W') (base := 0) (spare := fun b => decide (b < W.heap.size)) (held := true) (a := a) (len := 0) (cap := 0) (t := 22) Try.underlying22 (Nat.zero_le _) hl hm hsp (fun i => .lit (.string (Sx i).data.toList)) (fun _ => []) (fun i hi => absurd hi (Nat.not_lt_zero _))
        rw [Nat.zero_mul, Go.Deep.flatMap_nils, List.append_nil] at this
        exact this
    · obtain ⟨i, hi, rfl⟩ := List.mem_map.1 hs
      have e : (Sx i).size = (Sx i).data.toList.length := by rw [Array.length_toList]; rfl
      rw [e]
      apply hz
      unfold DataW.weights
      rw [Try.underlying22]
      refine List.mem_cons_of_mem _ (List.mem_append_left _ ?_)
      exact mem_weightsAll (List.mem_map.2 ⟨i, hi, rfl⟩) (by unfold DataW.weights; exact List.mem_singleton.2 rfl)
end Go.Proofs.Ytbbbdcohkfijoaa

namespace Go.Proofs.Ytbbbdcohkfijoaa
open Go.RowKit Go.Lib Go.Maps

theorem same_ptr (c : Nat) (W : World) : (binOp .eql 24 (ptrB c) (ptrB c)).run Try.prog W = .ok (.bool true) W := by
  have h : (Try.prog.info? 43).isSome = true := by kernel_rfl
  obtain ⟨j, hj⟩ := Option.isSome_iff_exists.1 h
  exact run_eql_ptr_same W ⟨c, 0, none⟩ Try.underlying24 hj
def kV : ByteArray := ⟨#[118]⟩
set_option maxRecDepth 100000 in
set_option maxHeartbeats 8000000 in
theorem assocNested_any (A : Option Addr) (ca : Nat) (ss : List ByteArray) (v : ByteArray) (w : World) (hs : ∀ s ∈ ss, s.size ≤ 281474976710656) (hr : RdS w A ss) (hv : v.size ≤ 281474976710656) (hll : ss.length ≤ 9223372036854775807) :
    Calls Try.prog 3 #[.slice A ss.length ca, .string v] w fun e w' => e = .returned (.bool true) ∧ Below w.heap.size w w' := by
  have CF := Lib.hid (asFixed_any w)
  have HR := Lib.hid hr
  obtain ⟨B, hB⟩ : ∃ B, w.heap.size = B := ⟨_, rfl⟩
  have HB := Lib.hid hB
  have HSS := Lib.hid hs
  by_cases hlen : 200 < ss.length
  · have h1 : (200 : Int) < (ss.length : Int) := by omega
    clear hr hs hB
    go_enter Try.func3, Try.ntmps3
    go_wp2_with fail
    refine CF.out.mono ?_
    rintro e W1 ⟨rfl, h1⟩
    go_wp2_with fail
    go_ret
    exact ⟨rfl, h1⟩
  · have h1 : ¬ (200 : Int) < (ss.length : Int) := by omega
    obtain ⟨n, hn⟩ : ∃ n, ss.length = n := ⟨_, rfl⟩
    have HN := Lib.hid hn
    rw [hn] at h1 hlen hll ⊢
    rw [hB] at CF ⊢
    clear hr hs hB hn
    go_enter Try.func3, Try.ntmps3
    go_wp2_with fail
    refine CF.out.mono ?_
    rintro e W1 ⟨rfl, hb1⟩
    have HB1 := Lib.hid hb1
    have hB1 : B ≤ W1.heap.size := by have := hb1.size; have := HB.out; omega
    clear hb1 CF
    go_wp2_with fail
    refine (new_any W1).mono ?_
    rintro e W2 ⟨rt, rm, rfl, hA, hrt, hrm, h2⟩
    have HA2 := Lib.hid hA
    have HB2 := Lib.hid (HB1.out.trans (h2.mono hB1))
    have HRM := Lib.hid (show B ≤ rt ∧ B ≤ rm by omega)
    clear hA h2 HB1 hrt hrm
    go_wp2_with fail
    go_loopw [6, 25] (fun av i wr => ∃ (k : Nat) (l : List (ByteArray × Nat × Nat)) (z hi mz : Nat), k ≤ n ∧ i = .int .i64 k ∧ av = ptrB z ∧ Chain wr B l rt z hi ∧ l.map (·.1) = ss.take k ∧ Arr wr z mz 0 0 (.map []) ∧ hi ≤ z ∧ hi ≤ mz ∧ Below B w wr) (fun _ i _ => n - (RowKit.intOf i).toNat)
    case atStart => exact ⟨0, [], rt, B, rm, Nat.zero_le _, rfl, rfl, ⟨rfl, rfl⟩, rfl, HA2.out, HRM.out.1, HRM.out.2, HB2.out⟩
    case round =>
      clear HA2 HB2 hB1
      obtain ⟨k, l, z, hi, mz, hk, rfl, rfl, hC, hl, hA, hz, hmz, hBw⟩ := hrel
      have HC := Lib.hid hC
      have HL := Lib.hid hl
      have HA := Lib.hid hA
      have HBW := Lib.hid hBw
      have HZ := Lib.hid (show hi ≤ z ∧ hi ≤ mz ∧ z < wr.heap.size ∧ mz < wr.heap.size ∧ B ≤ hi from ⟨hz, hmz, hA.row.lt, hA.own.lt, chain_le hC⟩)
      have hBs : B ≤ wr.heap.size := by have := HZ.out; omega
      clear hC hl hA hz hmz hBw
      by_cases hlt : k < n
      · have hkl : k < ss.length := by rw [HN.out]; exact hlt
        obtain ⟨bk, off, hAe, hc⟩ := HR.out k hkl
        subst hAe
        have hcell : wr.cell? ⟨bk, off + k, none⟩ = some (.string ss[k]) := (HBW.out.cell (by have := World.block_lt_of_cell? w _ hc; rw [← HB.out]; exact this)).trans hc
        have hks := HSS.out _ (List.getElem_mem hkl)
        have htk : ss.take (k + 1) = ss.take k ++ [ss[k]] := by rw [List.take_succ_eq_append_getElem hkl]
        obtain ⟨key, hkey⟩ : ∃ key, ss[k] = key := ⟨_, rfl⟩
        rw [hkey] at hcell hks htk
        have HTK := Lib.hid htk
        clear hc hkl hkey htk
        go_wp2_with fail
        refine (sub_new HA.out key hks (by decide) (by decide) (by decide) rfl).mono ?_
        rintro e W3 ⟨el, sb, mb, rfl, hel, hsb, hmb, hA3, hE3, hS3, hO⟩
        have HA3 := Lib.hid (show Arr W3 z mz 1 1 (.map [(klS key, .held (ptrB el))]) from hA3)
        have HE3 := Lib.hid hE3
        have HS3 := Lib.hid hS3
        have hZ := HZ.out
        have HC3 := Lib.hid (chain_snoc (chain_below (hO.below hZ.1 hZ.2.1 (by omega)) (Nat.le_refl _) HC.out) hZ.1 hZ.2.1 (by omega) (by omega) HA3.out hE3)
        have HB3 := Lib.hid (HBW.out.trans (hO.below (by omega) (by omega) hBs))
        have hB3 : B ≤ W3.heap.size := Nat.le_trans hBs hO.size
        have h4 : el < W3.heap.size := hE3.lt
        have hord : el < sb ∧ el < mb := ⟨hsb, hmb⟩
        clear hA3 hE3 hS3 hO hcell hZ HC HA HBW HZ hsb hmb hel hBs
        go_wp2_with fail
        refine (kindKey_any HA3.out key (by unfold maxLen; omega) (at_one _ _ _) (kind_arr HE3.out)).mono ?_
        rintro e w' ⟨rfl, rfl⟩
        go_wp2_with fail
        refine (len_any HA3.out).mono ?_
        rintro e w' ⟨rfl, rfl⟩
        go_wp2_with fail
        refine (total_chain (t := 0) ⟨by decide, by decide⟩ HC3.out (by omega) (fun W' hb => total_empty (HS3.out.kept hb))).mono ?_
        rintro e W4 ⟨rfl, h5⟩
        have HC4 := Lib.hid (chain_below h5 (by omega) HC3.out)
        have HS4 := Lib.hid (HS3.out.kept h5)
        have HB4 := Lib.hid (HB3.out.trans (h5.mono hB3))
        clear h5 HA3 HE3 HS3 HC3 HB3
        go_wp2_with fail
        go_roundw
        case rel => exact ⟨k + 1, _, sb, el + 1, mb, by omega, by go_num, rfl, HC4.out, by rw [List.map_append, HL.out, HTK.out]; rfl, HS4.out, by omega, by omega, HB4.out⟩
        case measure => simp [RowKit.intOf]; omega
      · have hkn : k = n := by omega
        subst hkn
        have hl2 : l.map (·.1) = ss := by rw [HL.out]; exact List.take_of_length_le (by rw [HN.out]; exact Nat.le_refl _)
        have HL2 := Lib.hid hl2
        clear hl2 HL
        go_wp2_with fail
        refine (asText_any v wr).mono ?_
        rintro e W3 ⟨rfl, h3⟩
        have HC3 := Lib.hid (chain_below h3 (by have := HZ.out; omega) HC.out)
        have HA3 := Lib.hid (HA.out.kept h3)
        have HB3 := Lib.hid (HBW.out.trans (h3.mono hBs))
        have hB3 : B ≤ W3.heap.size := Nat.le_trans hBs h3.size
        have hsz3 := h3.size
        clear h3 HC HA HBW
        go_wp2_with fail
        refine (set_new HA3.out kV (by decide) (by decide) (by decide) (by decide) rfl 2 0 v hv).mono ?_
        rintro e W4 ⟨rfl, ⟨ev, hev, hA4, hE4⟩, hO⟩
        have hZ := HZ.out
        have HA4 := Lib.hid (show Arr W4 z mz 1 1 (.map [(klS kV, .held (ptrB ev))]) from hA4)
        have HE4 := Lib.hid hE4
        have HC4 := Lib.hid (chain_below (hO.below hZ.1 hZ.2.1 (by omega)) (Nat.le_refl _) HC3.out)
        have HB4 := Lib.hid (HB3.out.trans (hO.below (by omega) (by omega) hB3))
        have hB4 : B ≤ W4.heap.size := Nat.le_trans hB3 hO.size
        have hhi : hi ≤ W4.heap.size := by have := hO.size; omega
        clear hA4 hE4 hO HC3 HA3 HB3 hZ HZ hsz3 hBs hB3 hev
        go_wp2_with fail
        refine (total_chain (t := 1) ⟨by decide, by decide⟩ HC4.out hhi (fun W' hb => total_one (HA4.out.kept hb) ⟨by decide, by decide⟩ (Or.inl ⟨_, _, _, _, _, HE4.out.below hb HE4.out.lt, rfl⟩))).mono ?_
        rintro e W5 ⟨rfl, h5⟩
        have HC5 := Lib.hid (chain_below h5 hhi HC4.out)
        have HA5 := Lib.hid (HA4.out.kept h5)
        have HE5 := Lib.hid (HE4.out.below h5 HE4.out.lt)
        have HB5 := Lib.hid (HB4.out.trans (h5.mono hB4))
        have hB5 : B ≤ W5.heap.size := Nat.le_trans hB4 h5.size
        have hhi5 : hi ≤ W5.heap.size := Nat.le_trans hhi h5.size
        clear h5 HC4 HA4 HE4 HB4 hB4 hhi
        go_wp2_with fail
        go_loop [11, 72] (fun bv i => ∃ (j : Nat) (l2 : List (ByteArray × Nat × Nat)) (c lo : Nat), j ≤ k ∧ i = .int .i64 j ∧ bv = ptrB c ∧ Chain W5 lo l2 c z hi ∧ l2.map (·.1) = ss.drop j) (fun _ i => k - (RowKit.intOf i).toNat)
        case atStart => exact ⟨0, l, rt, B, Nat.zero_le _, rfl, rfl, HC5.out, by rw [HL2.out]; rfl⟩
        case round =>
          obtain ⟨j, l2, c, lo, hj, rfl, rfl, hC, hl2⟩ := hrel
          by_cases hlt2 : j < k
          · have hkl : j < ss.length := by rw [HN.out]; exact hlt2
            obtain ⟨bk, off, hAe, hc⟩ := HR.out j hkl
            subst hAe
            have hcell : W5.cell? ⟨bk, off + j, none⟩ = some (.string ss[j]) := (HB5.out.cell (by have := World.block_lt_of_cell? w _ hc; rw [← HB.out]; exact this)).trans hc
            have hks := HSS.out _ (List.getElem_mem hkl)
            have hdr : ss.drop j = ss[j] :: ss.drop (j + 1) := List.drop_eq_getElem_cons hkl
            rw [hdr] at hl2
            obtain ⟨p, r, rfl⟩ : ∃ p r, l2 = p :: r := by
              cases l2 with
              | nil => exact (List.cons_ne_nil _ _ hl2.symm).elim
              | cons p r => exact ⟨p, r, rfl⟩
            obtain ⟨key, m, el⟩ := p
            obtain ⟨_, _, _, _, h5, a', h6, h7⟩ := hC
            rw [List.map_cons] at hl2
            have hl3 := (List.cons.inj hl2).1
            have HL4 := Lib.hid (List.cons.inj hl2).2
            have hl3' : ss[j] = key := hl3.symm
            rw [hl3'] at hcell hks
            have H5 := Lib.hid h5
            have H6 := Lib.hid h6
            have H7 := Lib.hid h7
            clear hl2 hl3 hl3' hdr hc h5 h6 h7 hkl
            go_wp2_with fail
            refine (sub_arr H5.out key hks (at_one _ _ _) H6.out).mono ?_
            rintro e w' ⟨rfl, rfl⟩
            go_wp2_with fail
            go_round
            case rel => exact ⟨j + 1, r, a', el + 1, by omega, by go_num, rfl, H7.out, HL4.out⟩
            case measure => simp [RowKit.intOf]; omega
          · have hjk : j = k := by omega
            subst hjk
            have hd : ss.drop j = [] := List.drop_of_length_le (by rw [HN.out]; exact Nat.le_refl _)
            rw [hd] at hl2
            have hnil : l2 = [] := List.map_eq_nil_iff.1 hl2
            subst hnil
            have hcz : c = z := hC.1
            subst hcz
            clear hC hl2 hd
            go_wp2_with fail
            refine (get_val HA5.out kV (by decide) (at_one _ _ _) HE5.out hv).mono ?_
            rintro e W6 ⟨rfl, h6⟩
            have b7 := (h6.alloc h6.size (.cells #[.int .i64 2, .float .f64 0, .string v] 35))
            have HC7 := Lib.hid (chain_below b7 hhi5 HC5.out)
            have HA7 := Lib.hid (HA5.out.kept b7)
            have HE7 := Lib.hid (HE5.out.below b7 HE5.out.lt)
            have HB7 := Lib.hid (HB5.out.trans (b7.mono hB5))
            have hB7 : B ≤ (W6.alloc (.cells #[.int .i64 2, .float .f64 0, .string v] 35)).heap.size := Nat.le_trans hB5 b7.size
            have hhi7 := Nat.le_trans hhi5 b7.size
            have F := Blk.new W6 #[.int .i64 0, .float .f64 0, .string ⟨#[]⟩] 35
            obtain ⟨q0, q1, q2, r0, r1, r2⟩ := F.three
            have hst := as_store_float
            clear h6 b7 HC5 HA5 HE5 HB5 F
            have hpe := same_ptr c
            go_wp2_with fail
            refine (total_chain (t := 1) ⟨by decide, by decide⟩ HC7.out hhi7 (fun W' hb => total_one (HA7.out.kept hb) ⟨by decide, by decide⟩ (Or.inl ⟨_, _, _, _, _, HE7.out.below hb HE7.out.lt, rfl⟩))).mono ?_
            rintro e W8 ⟨rfl, h8⟩
            have hBf := HB7.out.trans (h8.mono hB7)
            go_wp2_with fail
            go_ret
            exact ⟨rfl, hBf⟩
end Go.Proofs.Ytbbbdcohkfijoaa
