/- Several texts in one (Contracts of layer 7: the orders by their names; Plain: numbers of digits of any base, the lowest digit first; Plain: the guess of a limb of the quotient, and a round of the long division; Words for memory: a row of numbers within a block that may be written; a slice that is read; Words for memory: a row of the call's own, of numbers; Contracts of layer 7: Order, whatever the order is; Contracts of layer 7: how items are made ready, and how they are compared; Contracts of layer 3: fractions, timesTwo; Plain: decimal texts of numbers; Contracts of layer 3: timesTen; Contracts of layer 3: floats by their bits: Abs, IsNaN, IsInf, Parts; Contracts of layer 3: which floats are finite; Parts; Contracts of layer 3: amount; Plain: floats by their rungs, and which one is nearest to a fraction. No walk here; Contracts of layer 3: math.Ldexp of a natural that is a float; Contracts of layer 3: math.Ldexp; Contracts of layer 3: what its laws share: same, digits one by one; Contracts of layer 4: the float nearest to a numeral; Plain: floats by a mantissa of 53 digits; exact differences; one step of what is left. No walk here; Contracts of layer 4: whole numbers: wholeBelow, Whole; Contracts of layer 4: Pow; The definition of layer 2: Text; The definition of layer 4: isDigit, blank, hex, Same; The order of floats by a whole number, and what a number is called that has no digits (boundless); Contracts of layer 4: what its laws share: whole numbers read, what is left of whole numbers, the fixed examples; Contracts of layer 6: values as strings; values compared; The walk of the law CellTexts; Plain: values in order. No walk here; Layer 7: each order is one; values compared; Contracts of layer 7's laws: entries made of items; lists of numbers compared; Plain arithmetic of layer 1: the character at a place of a string; Plain arithmetic of layer 1: the places at which the characters of a string begin; Contracts of layer 1: All, the iterator over a string's characters; Layer 1: the law UstrAll, walked; Contracts of layer 7: values written; every order of the table at once; Known; Contracts of layer 8: Keys and All of an array that is nil, by what its entries are). -/
import Derived.Maps.OwnSet
import Derived.Maps.OwnOps
import Derived.Test.YtdliiohjbnlieaaGreatDoorShelf
import Derived.KernelRfl
import Derived.WalkSmall
import Derived.WalkKit
import Derived.ProofKit
import Derived.Below
import Derived.Lib.Hide
import Derived.Laws.OwnMore
import Derived.Lib.SmallJoins
import Derived.Test.YtdliiohjbnlieaaGreatDoorProg
import Derived.Laws.MakeOwn
import Derived.Maps.AppendAt
import Derived.Laws.AppendOwnNone
import Derived.RangeFuncBox
import Derived.IntWalk
import Derived.Laws.CopyOwn
import Derived.Outline
import Derived.Lib.BitFns
import Derived.Deep.RegionWith
import Derived.Deep.QuietTactic
import Derived.BigQuiet
import Derived.Laws.BitsAllLaws
import Derived.RegionTactic
import Derived.ChangeAlike
import Derived.Lib.LazyBuf
import Derived.Lib.BufferRead
import Derived.WalkSpells
import Derived.WalkLawsBesides
import Derived.Laws.Cover2
import Derived.Laws.Externs
import Derived.Laws.BitsAll
import Derived.Laws.FloatArith
import Derived.Lib.ItoaNum
import Derived.Lib.AppendIntMem
import Derived.Shelf.Strings.SlTrimAscii
import Derived.Deep.RegionHeld3
import Derived.Deep.DeepCutAuto
import Derived.Deep.Slices
import Derived.Deep.Fields
import Derived.ChangeSame
import Derived.Deep.Strs
import Derived.OpenShut
import Derived.ChangeShapes
import Derived.WideShapes
import Derived.Deep.RegionHeldLaw
import Derived.Deep.AppendLies
import Derived.Lib.DecodeN
import Derived.Shelf.Unicode.DecodeSlow
import Derived.Lib.RuneCount
import Derived.RangeFuncNested
import Derived.RangeFuncBound
import Derived.RangeFuncCalls
import Derived.RangeFuncLeaves
import Derived.Shelf.Abstract
import Derived.Shelf.RegionOpen
import Derived.OwnWalkIn
import Derived.TacticsInMore
import Derived.LoopNIn
import Derived.LoopIn
import Derived.Test.YtdliiohjbnlieaaGreatDoorRows
import Derived.Lib.RuneCountTail
import Derived.Deep.Upon
import Derived.Test.YtdliiohjbnlieaaGreatDoorQn1
namespace Go.Proofs.YtdliiohjbnlieaaGreatDoor
open Go.RowKit Go.Lib Go.Maps

abbrev ordV (fr fc : FuncId) (way : Int) : Value := .agg #[fval fr, fval fc, .int .i64 way]
def asO (v : Value) : Option (DataW Value × List MemPlace) := some (.held v, [])
def klO (s : ByteArray) : Lit := .string s.data.toList
theorem lawO : Keyed Tryz.prog 9 := string_keyed Tryz.underlying9
theorem keyO {s : ByteArray} (h : s.size ≤ maxLen) : keyOf Tryz.prog 9 (.string s) = some (klO s) := Go.WideMaps.keyOf_string_mk Tryz.underlying9 h
theorem zeroO (w : World) : (zeroValue 77).run Tryz.prog w = .ok (.agg #[.nilFunc, .nilFunc, .int .i64 0]) w := by kernel_rfl
def n0 : ByteArray := ⟨#[64, 117, 110, 115, 111, 114, 116, 101, 100]⟩
def n1 : ByteArray := ⟨#[64, 105, 110, 100, 95, 115, 116, 114, 95, 97, 115, 99]⟩
def n2 : ByteArray := ⟨#[64, 105, 110, 100, 95, 115, 116, 114, 95, 100, 101, 115, 99]⟩
def n3 : ByteArray := ⟨#[64, 105, 110, 100, 95, 110, 117, 109, 95, 97, 115, 99]⟩
def n4 : ByteArray := ⟨#[64, 105, 110, 100, 95, 110, 117, 109, 95, 100, 101, 115, 99]⟩
def n5 : ByteArray := ⟨#[64, 118, 97, 108, 95, 115, 116, 114, 95, 97, 115, 99]⟩
def n6 : ByteArray := ⟨#[64, 118, 97, 108, 95, 115, 116, 114, 95, 100, 101, 115, 99]⟩
def n7 : ByteArray := ⟨#[64, 118, 97, 108, 95, 110, 117, 109, 95, 97, 115, 99]⟩
def n8 : ByteArray := ⟨#[64, 118, 97, 108, 95, 110, 117, 109, 95, 100, 101, 115, 99]⟩
def n9 : ByteArray := ⟨#[64, 118, 97, 108, 95, 116, 121, 112, 101, 95, 97, 115, 99]⟩
def n10 : ByteArray := ⟨#[64, 118, 97, 108, 95, 116, 121, 112, 101, 95, 100, 101, 115, 99]⟩
abbrev fLeave : FuncId := 42
abbrev fAlike : FuncId := 43
abbrev fByKey : FuncId := 44
abbrev fCountKey : FuncId := 45
abbrev fByKeyN : FuncId := 46
abbrev fWrite : FuncId := 47
abbrev fByVal : FuncId := 48
abbrev fCount : FuncId := 49
/-- The orders, as their map is read. -/
def ordsD : DataW Value :=
  ((((((((((((DataW.map [] : DataW Value).put (klO n0) (.held (ordV fLeave fAlike 1))).put (klO n1) (.held (ordV fLeave fByKey 1))).put (klO n2) (.held (ordV fLeave fByKey (-1)))).put (klO n3) (.held (ordV fCountKey fByKeyN 1))).put (klO n4) (.held (ordV fCountKey fByKeyN (-1)))).put (klO n5) (.held (ordV fWrite fByVal 1))).put (klO n6) (.held (ordV fWrite fByVal (-1)))).put (klO n7) (.held (ordV fCount fByVal 1))).put (klO n8) (.held (ordV fCount fByVal (-1)))).put (klO n9) (.held (ordV fLeave fByVal 1))).put (klO n10) (.held (ordV fLeave fByVal (-1))))
theorem putO_run {W : World} {m n : Nat} {D : DataW Value} (h : W.ownsMap Tryz.prog 9 asO m n D) (hn : n < maxLen) {s : ByteArray} (hs : s.size ≤ maxLen) (v : Value) :
    ∃ W', (Instr.mapUpdate 79 (.map (some m)) (.string s) v).run Tryz.prog W = .ok () W' ∧ W'.ownsMap Tryz.prog 9 asO m (n + 1) (D.put (klO s) (.held v)) ∧ W.mapTurned W' m := by
  have := h.store lawO Tryz.underlying79 hn (val := v) (keyO hs) (d := .held v) (ps := []) rfl
  exact this
set_option maxRecDepth 100000 in
set_option maxHeartbeats 4000000 in
theorem orders_any (w : World) : Calls Tryz.prog 31 #[] w fun e w' => e = .returned (.map (some w.heap.size)) ∧ w'.ownsMap Tryz.prog 9 asO w.heap.size 11 ordsD ∧ Below w.heap.size w w' := by
  have hmm := @run_makeMap Tryz.prog
  have h0 := World.ownsMap_made w Tryz.prog 9 asO
  have b0 := (Below.refl w.heap.size w).alloc (Nat.le_refl _) (.map #[] 0)
  obtain ⟨W1, u1, h1, t1⟩ := putO_run h0 (by decide) (s := ⟨#[64, 117, 110, 115, 111, 114, 116, 101, 100]⟩) (by decide) (ordV fLeave fAlike 1)
  have b1 : Below w.heap.size w W1 := b0.grown t1.grown (by simp) (fun k e => by cases e; exact Nat.le_refl _)
  clear t1 h0 b0
  obtain ⟨W2, u2, h2, t2⟩ := putO_run h1 (by decide) (s := ⟨#[64, 105, 110, 100, 95, 115, 116, 114, 95, 97, 115, 99]⟩) (by decide) (ordV fLeave fByKey 1)
  have b2 : Below w.heap.size w W2 := b1.grown t2.grown b1.size (fun k e => by cases e; exact Nat.le_refl _)
  clear t2 h1 b1
  obtain ⟨W3, u3, h3, t3⟩ := putO_run h2 (by decide) (s := ⟨#[64, 105, 110, 100, 95, 115, 116, 114, 95, 100, 101, 115, 99]⟩) (by decide) (ordV fLeave fByKey (-1))
  have b3 : Below w.heap.size w W3 := b2.grown t3.grown b2.size (fun k e => by cases e; exact Nat.le_refl _)
  clear t3 h2 b2
  obtain ⟨W4, u4, h4, t4⟩ := putO_run h3 (by decide) (s := ⟨#[64, 105, 110, 100, 95, 110, 117, 109, 95, 97, 115, 99]⟩) (by decide) (ordV fCountKey fByKeyN 1)
  have b4 : Below w.heap.size w W4 := b3.grown t4.grown b3.size (fun k e => by cases e; exact Nat.le_refl _)
  clear t4 h3 b3
  obtain ⟨W5, u5, h5, t5⟩ := putO_run h4 (by decide) (s := ⟨#[64, 105, 110, 100, 95, 110, 117, 109, 95, 100, 101, 115, 99]⟩) (by decide) (ordV fCountKey fByKeyN (-1))
  have b5 : Below w.heap.size w W5 := b4.grown t5.grown b4.size (fun k e => by cases e; exact Nat.le_refl _)
  clear t5 h4 b4
  obtain ⟨W6, u6, h6, t6⟩ := putO_run h5 (by decide) (s := ⟨#[64, 118, 97, 108, 95, 115, 116, 114, 95, 97, 115, 99]⟩) (by decide) (ordV fWrite fByVal 1)
  have b6 : Below w.heap.size w W6 := b5.grown t6.grown b5.size (fun k e => by cases e; exact Nat.le_refl _)
  clear t6 h5 b5
  obtain ⟨W7, u7, h7, t7⟩ := putO_run h6 (by decide) (s := ⟨#[64, 118, 97, 108, 95, 115, 116, 114, 95, 100, 101, 115, 99]⟩) (by decide) (ordV fWrite fByVal (-1))
  have b7 : Below w.heap.size w W7 := b6.grown t7.grown b6.size (fun k e => by cases e; exact Nat.le_refl _)
  clear t7 h6 b6
  obtain ⟨W8, u8, h8, t8⟩ := putO_run h7 (by decide) (s := ⟨#[64, 118, 97, 108, 95, 110, 117, 109, 95, 97, 115, 99]⟩) (by decide) (ordV fCount fByVal 1)
  have b8 : Below w.heap.size w W8 := b7.grown t8.grown b7.size (fun k e => by cases e; exact Nat.le_refl _)
  clear t8 h7 b7
  obtain ⟨W9, u9, h9, t9⟩ := putO_run h8 (by decide) (s := ⟨#[64, 118, 97, 108, 95, 110, 117, 109, 95, 100, 101, 115, 99]⟩) (by decide) (ordV fCount fByVal (-1))
  have b9 : Below w.heap.size w W9 := b8.grown t9.grown b8.size (fun k e => by cases e; exact Nat.le_refl _)
  clear t9 h8 b8
  obtain ⟨W10, u10, h10, t10⟩ := putO_run h9 (by decide) (s := ⟨#[64, 118, 97, 108, 95, 116, 121, 112, 101, 95, 97, 115, 99]⟩) (by decide) (ordV fLeave fByVal 1)
  have b10 : Below w.heap.size w W10 := b9.grown t10.grown b9.size (fun k e => by cases e; exact Nat.le_refl _)
  clear t10 h9 b9
  obtain ⟨W11, u11, h11, t11⟩ := putO_run h10 (by decide) (s := ⟨#[64, 118, 97, 108, 95, 116, 121, 112, 101, 95, 100, 101, 115, 99]⟩) (by decide) (ordV fLeave fByVal (-1))
  have b11 : Below w.heap.size w W11 := b10.grown t11.grown b10.size (fun k e => by cases e; exact Nat.le_refl _)
  clear t11 h10 b10
  have H := Lib.hid h11
  have HB := Lib.hid b11
  clear h11 b11
  go_enter Tryz.func31, Tryz.ntmps31
  go_wp2
  go_ret
  exact ⟨rfl, H.out, HB.out⟩
theorem klO_inj {s t : ByteArray} (h : klO s = klO t) : s = t := by
  have h2 : s.data.toList = t.data.toList := by injection h
  exact ByteArray.ext (Array.toList_inj.1 h2)
/-- The names, and what they stand for. -/
def ordT : List (ByteArray × FuncId × FuncId × Int) := [(n0, fLeave, fAlike, 1), (n1, fLeave, fByKey, 1), (n2, fLeave, fByKey, (-1)), (n3, fCountKey, fByKeyN, 1), (n4, fCountKey, fByKeyN, (-1)), (n5, fWrite, fByVal, 1), (n6, fWrite, fByVal, (-1)), (n7, fCount, fByVal, 1), (n8, fCount, fByVal, (-1)), (n9, fLeave, fByVal, 1), (n10, fLeave, fByVal, (-1))]
theorem ords_yes {how : ByteArray} {fr fc : FuncId} {way : Int} (h : (how, fr, fc, way) ∈ ordT) : Maps.has ordsD (klO how) = true ∧ ∀ z, ordsD.atKey (klO how) z = .held (ordV fr fc way) := by
  unfold ordT at h
  simp only [List.mem_cons, Prod.mk.injEq, List.not_mem_nil, or_false] at h
  rcases h with ⟨rfl, rfl, rfl, rfl⟩ | ⟨rfl, rfl, rfl, rfl⟩ | ⟨rfl, rfl, rfl, rfl⟩ | ⟨rfl, rfl, rfl, rfl⟩ | ⟨rfl, rfl, rfl, rfl⟩ | ⟨rfl, rfl, rfl, rfl⟩ | ⟨rfl, rfl, rfl, rfl⟩ | ⟨rfl, rfl, rfl, rfl⟩ | ⟨rfl, rfl, rfl, rfl⟩ | ⟨rfl, rfl, rfl, rfl⟩ | ⟨rfl, rfl, rfl, rfl⟩
  all_goals exact ⟨rfl, fun _ => rfl⟩
theorem ords_no {how : ByteArray} (h : ∀ fr fc way, (how, fr, fc, way) ∉ ordT) : Maps.has ordsD (klO how) = false ∧ ∀ z, ordsD.atKey (klO how) z = z := by
  have ne : ∀ x ∈ ordT, how ≠ x.1 := fun x hx e => h x.2.1 x.2.2.1 x.2.2.2 (by rw [e]; exact hx)
  have hk : ∀ x ∈ ordT, klO how ≠ klO x.1 := fun x hx e => ne x hx (klO_inj e)
  have hh : Maps.has ordsD (klO how) = false := by
    unfold ordsD
    rw [Maps.has_put_other (hk (n10, fLeave, fByVal, (-1)) (by unfold ordT; simp))]
    rw [Maps.has_put_other (hk (n9, fLeave, fByVal, 1) (by unfold ordT; simp))]
    rw [Maps.has_put_other (hk (n8, fCount, fByVal, (-1)) (by unfold ordT; simp))]
    rw [Maps.has_put_other (hk (n7, fCount, fByVal, 1) (by unfold ordT; simp))]
    rw [Maps.has_put_other (hk (n6, fWrite, fByVal, (-1)) (by unfold ordT; simp))]
    rw [Maps.has_put_other (hk (n5, fWrite, fByVal, 1) (by unfold ordT; simp))]
    rw [Maps.has_put_other (hk (n4, fCountKey, fByKeyN, (-1)) (by unfold ordT; simp))]
    rw [Maps.has_put_other (hk (n3, fCountKey, fByKeyN, 1) (by unfold ordT; simp))]
    rw [Maps.has_put_other (hk (n2, fLeave, fByKey, (-1)) (by unfold ordT; simp))]
    rw [Maps.has_put_other (hk (n1, fLeave, fByKey, 1) (by unfold ordT; simp))]
    rw [Maps.has_put_other (hk (n0, fLeave, fAlike, 1) (by unfold ordT; simp))]
    rfl
  exact ⟨hh, fun z => Maps.atKey_of_not_has hh z⟩
theorem ords_look {W : World} {m : Nat} (h : W.ownsMap Tryz.prog 9 asO m 11 ordsD) {how : ByteArray} (hs : how.size ≤ maxLen) :
    (∀ fr fc way, (how, fr, fc, way) ∈ ordT → (Instr.lookup 79 (.map (some m)) (.string how) true).run Tryz.prog W = .ok (.tuple #[ordV fr fc way, .bool true]) W) ∧
    ((∀ fr fc way, (how, fr, fc, way) ∉ ordT) → (Instr.lookup 79 (.map (some m)) (.string how) true).run Tryz.prog W = .ok (.tuple #[.agg #[.nilFunc, .nilFunc, .int .i64 0], .bool false]) W) := by
  obtain ⟨u, ps, hr, hu⟩ := h.look_ok lawO Tryz.underlying79 (zeroO W) (zd := .held (.agg #[.nilFunc, .nilFunc, .int .i64 0])) (zp := []) rfl (keyO hs)
  unfold asO at hu
  simp only [Option.some.injEq, Prod.mk.injEq] at hu
  constructor
  · intro fr fc way hm
    obtain ⟨h1, h2⟩ := ords_yes hm
    rw [h2] at hu
    have e : u = ordV fr fc way := by have := hu.1; injection this
    rw [hr, h1, e]
  · intro hm
    obtain ⟨h1, h2⟩ := ords_no hm
    rw [h2] at hu
    have e : u = .agg #[.nilFunc, .nilFunc, .int .i64 0] := by have := hu.1; injection this
    rw [hr, h1, e]
end Go.Proofs.YtdliiohjbnlieaaGreatDoor

namespace Go.Proofs.YtdliiohjbnlieaaGreatDoor

/-- Without noughts at the top. -/
def trimL : List Nat → List Nat
  | [] => []
  | x :: l => if trimL l = [] then (if x = 0 then [] else [x]) else x :: trimL l
/-- The digits of a number: n of them, and noughts at the top taken away. -/
def digs (B : Nat) : Nat → Nat → List Nat
  | 0, _ => []
  | k + 1, n => n % B :: digs B k (n / B)
def dig (B n : Nat) : List Nat := trimL (digs B n n)
end Go.Proofs.YtdliiohjbnlieaaGreatDoor

namespace Go.Proofs.YtdliiohjbnlieaaGreatDoor

/-- All that is known of the numbers that are guessed by: the divisor's two top limbs, the dividend's three. -/
structure GuessOk (B P Dl v1 v0 Nl u2 u1 u0 : Nat) : Prop where
  hP : 0 < P
  hDl : Dl < P
  hNl : Nl < P
  hv0 : v0 < B
  hv1 : v1 < B
  hu0 : u0 < B
  htop : B ≤ 2 * v1
  hB2 : 2 ≤ B
  hless : Nl + P * (u0 + B * (u1 + B * u2)) < B * (Dl + P * (v0 + B * v1))
section
variable {B P Dl v1 v0 Nl u2 u1 u0 : Nat} (h : GuessOk B P Dl v1 v0 Nl u2 u1 u0)
include h
end

section
variable {B D A : Nat} {cur qs : List Nat} {i n : Nat}
end
end Go.Proofs.YtdliiohjbnlieaaGreatDoor

namespace Go.Proofs.YtdliiohjbnlieaaGreatDoor
open Go.RowKit

/-- Numbers as cells. -/
def nums (κ : IntKind) (xs : List Nat) : List Value := xs.map fun x : Nat => Value.int κ (x : Int)
theorem nums_len (κ : IntKind) (xs : List Nat) : (nums κ xs).length = xs.length := List.length_map _
theorem nums_set (κ : IntKind) (xs : List Nat) (k y : Nat) : (nums κ xs).set k (.int κ (y : Nat)) = nums κ (xs.set k y) := by
  unfold nums; rw [List.map_set]
theorem nums_append (κ : IntKind) (xs ys : List Nat) : nums κ (xs ++ ys) = nums κ xs ++ nums κ ys := List.map_append
section
variable {κ : IntKind} {w w' : World} {g o : Nat} {t : TypeId} {L R : List Value} {xs : List Nat}
end
theorem grown_refl (w : World) (row : Option Nat) : w.grownBy w row := ⟨rfl, rfl, rfl, Nat.le_refl _, fun _ _ _ => rfl⟩
theorem grown_trans {a b c : World} {row : Option Nat} (h : a.grownBy b row) (k : b.grownBy c row) : a.grownBy c row :=
  ⟨k.os.trans h.os, k.tape.trans h.tape, k.output.trans h.output, Nat.le_trans h.size k.size, fun i hi hne => (k.block i (Nat.lt_of_lt_of_le hi h.size) hne).trans (h.block i hi hne)⟩
theorem grown_set {a w : World} {g j : Nat} (h : a.grownBy w (some g)) (u : Value) : a.grownBy (w.setCell ⟨g, j, none⟩ u) (some g) :=
  grown_trans h ⟨rfl, rfl, rfl, by simp [World.setCell], fun k _ hk => heap_setCell_other w ⟨g, j, none⟩ k u (fun e => hk (by simp [e]))⟩
/-- A slice that is read. -/
def Rd (κ : IntKind) (w : World) (A : Option Addr) (xs : List Nat) : Prop :=
  ∀ j (_ : j < xs.length), ∃ g o, A = some ⟨g, o, none⟩ ∧ w.cell? ⟨g, o + j, none⟩ = some (.int κ (xs[j] : Nat))
/-- It does not lie in block g. -/
def Off (A : Option Addr) (g : Nat) : Prop := ∀ a, A = some a → a.block ≠ g
section
variable {κ : IntKind} {w w' : World} {A : Option Addr} {xs : List Nat}
theorem Rd.nil : Rd κ w A [] := fun _ h => by simp at h
theorem Rd.at_ (h : Rd κ w A xs) (hx : xs ≠ []) : ∃ g o, A = some ⟨g, o, none⟩ ∧ ∀ j (_ : j < xs.length), w.cell? ⟨g, o + j, none⟩ = some (.int κ (xs[j] : Nat)) := by
  obtain ⟨g, o, rfl, _⟩ := h 0 (List.length_pos_iff.2 hx)
  refine ⟨g, o, rfl, fun j hj => ?_⟩
  obtain ⟨g', o', e, hc⟩ := h j hj
  cases e
  exact hc
theorem Rd.of {g o : Nat} (h : ∀ j (_ : j < xs.length), w.cell? ⟨g, o + j, none⟩ = some (.int κ (xs[j] : Nat))) : Rd κ w (some ⟨g, o, none⟩) xs := fun j hj => ⟨g, o, rfl, h j hj⟩
theorem Rd.kept (h : Rd κ w A xs) {g : Nat} (hg : w.grownBy w' (some g)) (hne : Off A g) : Rd κ w' A xs := fun j hj => by
  obtain ⟨g', o, e, hc⟩ := h j hj
  exact ⟨g', o, e, hg.cell hc (by intro e2; cases e2; exact hne _ e rfl)⟩
theorem Rd.below (h : Rd κ w A xs) (hb : Below w.heap.size w w') : Rd κ w' A xs := fun j hj => by
  obtain ⟨g', o, e, hc⟩ := h j hj
  exact ⟨g', o, e, (hb.cell (World.block_lt_of_cell? w _ hc)).trans hc⟩
theorem Rd.take (h : Rd κ w A xs) (n : Nat) : Rd κ w A (xs.take n) := fun j hj => by
  have hj2 : j < xs.length := by rw [List.length_take] at hj; omega
  obtain ⟨g, o, e, hc⟩ := h j hj2
  exact ⟨g, o, e, by rw [hc, List.getElem_take]⟩
/-- What lies in old memory is not in a new block. -/
theorem Rd.off (h : Rd κ w A xs) (hx : xs ≠ []) {g : Nat} (hg : w.heap.size ≤ g) : Off A g := by
  obtain ⟨g', o, rfl, hc⟩ := h.at_ hx
  intro a e
  cases e
  have := World.block_lt_of_cell? w _ (hc 0 (List.length_pos_iff.2 hx))
  show g' ≠ g
  exact fun e => by subst e; exact absurd this (by simpa using hg)
end
/-- A row of the call's own, of numbers. -/
def Own (κ : IntKind) (w : World) (B : Nat) (t : TypeId) (v : Value) (xs : List Nat) : Prop := w.ownsRow B t 1 v xs.length (nums κ xs)
end Go.Proofs.YtdliiohjbnlieaaGreatDoor

namespace Go.Proofs.YtdliiohjbnlieaaGreatDoor
open Go.RowKit

theorem info_i64 : (Tryz.prog.info? 3).map (fun i => (i.zero, i.size, i.bytes)) = some (some (.int .i64 0), 1, 8) := by kernel_rfl

section
variable {κ : IntKind} {w w' : World} {B g n cap : Nat} {t : TypeId} {v : Value} {A : Option Addr} {xs : List Nat}
theorem Own.nil (w : World) (B : Nat) (t : TypeId) : Own κ w B t (.slice none 0 0) [] := World.ownsRow_nil _ _ _ _
theorem Own.form (h : Own κ w B t v xs) (hx : 0 < xs.length) : ∃ g cap, v = .slice (some ⟨g, 0, none⟩) xs.length cap ∧ B ≤ g ∧ xs.length ≤ cap ∧ cap ≤ maxLen := by
  rcases h.2 with ⟨_, h0⟩ | ⟨g, cap, cur, rfl, hb, _, h1, h2, _⟩
  · omega
  · exact ⟨g, cap, rfl, hb, h1, h2⟩
theorem Own.forms (h : Own κ w B t v xs) : (v = .slice none 0 0 ∧ xs = []) ∨ ∃ g cap, v = .slice (some ⟨g, 0, none⟩) xs.length cap ∧ B ≤ g ∧ xs.length ≤ cap ∧ cap ≤ maxLen := by
  rcases h.2 with ⟨h1, h0⟩ | ⟨g, cap, cur, rfl, hb, _, h1, h2, _⟩
  · exact .inl ⟨h1, List.eq_nil_of_length_eq_zero h0⟩
  · exact .inr ⟨g, cap, rfl, hb, h1, h2⟩
/-- As a slice: the address is a variable. -/
theorem Own.slice (h : Own κ w B t v xs) : ∃ A cap, v = .slice A xs.length cap ∧ xs.length ≤ cap ∧ cap ≤ maxLen := by
  rcases h.forms with ⟨rfl, rfl⟩ | ⟨g, cap, rfl, _, h1, h2⟩
  · exact ⟨none, 0, rfl, Nat.le_refl _, Nat.zero_le _⟩
  · exact ⟨_, cap, rfl, h1, h2⟩
theorem Own.cell (h : Own κ w B t (.slice (some ⟨g, 0, none⟩) n cap) xs) (k : Nat) (hk : k < xs.length) : w.cell? ⟨g, k, none⟩ = some (.int κ (xs[k] : Nat)) := by
  have hn : n = xs.length := by
    rcases h.form (by omega) with ⟨_, _, e, _⟩
    cases e; rfl
  subst hn
  rw [World.ownsRow.cellAt h k (by omega), nums, List.getElem?_map, List.getElem?_eq_getElem hk]
  rfl
theorem Own.frozen (h : Own κ w B t (.slice (some ⟨g, 0, none⟩) xs.length cap) xs) (k : Nat) : w.frozen? ⟨g, k, none⟩ = false := World.ownsRow.frozenAt h k
theorem Own.set (h : Own κ w B t (.slice (some ⟨g, 0, none⟩) n cap) xs) (hn : n = xs.length) (k y : Nat) : Own κ (w.setCell ⟨g, k, none⟩ (.int κ (y : Nat))) B t (.slice (some ⟨g, 0, none⟩) n cap) (xs.set k y) := by
  subst hn
  have := (World.ownsRow.stored h k (.int κ (y : Nat))).1
  rw [nums_set] at this
  unfold Own
  rw [List.length_set]
  exact this
theorem Own.rd (h : Own κ w B t (.slice A n cap) xs) : Rd κ w A xs := fun j hj => by
  obtain ⟨g, c, e, _⟩ := h.form (by omega)
  cases e
  exact ⟨g, 0, rfl, by rw [Nat.zero_add]; exact h.cell j hj⟩
theorem Own.len (h : Own κ w B t (.slice A n cap) xs) : n = xs.length := by
  rcases h.forms with ⟨e, rfl⟩ | ⟨g, c, e, _⟩
  · cases e; rfl
  · cases e; rfl
theorem Own.row (h : Own κ w B t v xs) {n : Nat} (hn : xs.length = n) : w.ownsRow B t 1 v n (nums κ xs) := by subst hn; exact h
theorem Own.kept (h : Own κ w B t v xs) {row : Option Nat} (hg : w.grownBy w' row) (hne : v.ownBlock = none ∨ v.ownBlock ≠ row) : Own κ w' B t v xs := World.ownsRow.kept h hg hne
theorem Own.drew (h : Own κ w B t v xs) : Own κ w.drew B t v xs := h
theorem Own.alloc (h : Own κ w B t v xs) (o : Obj) : Own κ (w.alloc o) B t v xs := World.ownsRow.alloc h o
theorem Own.mono (h : Own κ w B t v xs) {B' : Nat} (hb : B' ≤ B) : Own κ w B' t v xs := ⟨h.1, h.2.imp_right fun ⟨g, cap, cur, e, hB, rest⟩ => ⟨g, cap, cur, e, Nat.le_trans hb hB, rest⟩⟩
theorem Own.below (h : Own κ w B t v xs) (hb : Below w.heap.size w w') : Own κ w' B t v xs := by
  refine ⟨h.1, ?_⟩
  rcases h.2 with h0 | ⟨g, cap, cur, rfl, hB, hg, rest⟩
  · exact .inl h0
  · exact .inr ⟨g, cap, cur, rfl, hB, (hb.block g (Array.getElem?_eq_some_iff.1 hg).1).trans hg, rest⟩
theorem Own.lt (h : Own κ w B t (.slice (some ⟨g, 0, none⟩) n cap) xs) : B ≤ g ∧ g < w.heap.size := World.ownsRow.lt h g rfl
theorem Own.take (h : Own κ w B t (.slice A n cap) xs) (m : Nat) (hm : m ≤ xs.length) : Own κ w B t (.slice A m cap) (xs.take m) := by
  have hl : (xs.take m).length = m := by rw [List.length_take]; omega
  unfold Own
  rw [hl]
  rcases h.2 with ⟨e, h0⟩ | ⟨g, c, cur, e, hB, hg, h1, h2, h3, h4⟩
  · cases e
    obtain rfl : m = 0 := by omega
    exact World.ownsRow_nil _ _ _ _
  · cases e
    refine ⟨by rw [nums_len, hl]; omega, .inr ⟨g, cap, cur, rfl, hB, hg, by omega, h2, h3, ?_⟩⟩
    have := congrArg (List.take m) h4
    rw [List.take_take, Nat.mul_one, Nat.min_eq_left (by omega)] at this
    rw [Nat.mul_one, this, nums, nums, List.map_take]
theorem Own.append {k m : Nat} {ys : List Nat} (h : w.ownsRow B t 1 v (k + m) (nums κ xs ++ nums κ ys)) (hk : k = xs.length) (hm : m = ys.length) : Own κ w B t v (xs ++ ys) := by
  subst hk
  subst hm
  unfold Own
  rw [List.length_append, nums_append]
  exact h
theorem Own.off (h : Own κ w B t v xs) {r : Nat} (hv : v.ownBlock ≠ some r) (hA : v = .slice A n cap) : Off A r := by
  subst hA
  intro a e
  subst e
  exact fun e2 => hv (by simp [Value.ownBlock, e2])
end
end Go.Proofs.YtdliiohjbnlieaaGreatDoor

namespace Go.Proofs.YtdliiohjbnlieaaGreatDoor
open Go.RowKit Go.Lib Go.Maps

/-- An entry's cells. -/
def enC (d : Dat) : List Value := [.string d.key, .int .i64 d.kind, .float .f64 d.num, .string d.str, .bool d.sub]
/-- A slice of entries that is read. -/
def RdE (W : World) (A : Option Addr) (es : List Dat) : Prop := ∀ j (_ : j < es.length), ∃ b off, A = some ⟨b, off, none⟩ ∧ ∀ i, i < 5 → W.cell? ⟨b, off + j * 5 + i, none⟩ = (enC es[j])[i]?
theorem RdE.below {W W' : World} {A : Option Addr} {es : List Dat} {B : Nat} (h : RdE W A es) (hB : W.heap.size ≤ B) (hb : Below B W W') : RdE W' A es := fun j hj => by
  obtain ⟨b, off, e, hc⟩ := h j hj
  refine ⟨b, off, e, fun i hi => ?_⟩
  have h1 := hc i hi
  have h2 : (enC es[j])[i]? = some ((enC es[j])[i]'(by simpa [enC] using hi)) := List.getElem?_eq_getElem _
  have hl := World.block_lt_of_cell? W _ (h1.trans h2)
  exact (hb.cell (p := ⟨b, off + j * 5 + i, none⟩) (by simp at hl ⊢; omega)).trans h1
/-- What making ready leaves of an item: rd of what it was. -/
def Readies (w0 : World) (B : Nat) (fr : FuncId) (conv : ByteArray) (n : Nat) (es rd : Nat → Dat) : Prop :=
  ∀ W b a, a < n → Below B w0 W → Blk W b (itC a (es a)) 86 → Calls Tryz.prog fr #[iptr b, .string conv] W fun e w' => (∃ r, e = .returned r) ∧ Blk w' b (itC a (rd a)) 86 ∧ W.grownBy w' (some b)
/-- What the order's comparison answers of two items. -/
def CmpOf (w0 : World) (B : Nat) (fc : FuncId) (n : Nat) (d : Nat → Dat) (cv : Nat → Nat → Int) : Prop :=
  ∀ W a b p q, a < n → b < n → Below B w0 W → Blk W p (itC a (d a)) 86 → Blk W q (itC b (d b)) 86 → Calls Tryz.prog fc #[iptr p, iptr q] W fun e w' => e = .returned (.int .i64 (cv a b)) ∧ Below W.heap.size W w'
theorem CmpOf.compares {w0 : World} {B : Nat} {fc : FuncId} {n N : Nat} {ib : Nat → Nat} {d : Nat → Dat} {cv : Nat → Nat → Int} (h : CmpOf w0 B fc n d cv) (hN : N ≤ n) : Compares w0 B fc N ib d cv :=
  fun W a b ha hb hB h1 h2 => h W a b _ _ (by omega) (by omega) hB h1 h2
/-- One item more, in a block of its own. -/
theorem HeapAt.more {w0 wz W : World} {B g : Nat} {fr fc : FuncId} {way : Int} {N x : Nat} {ib : Nat → Nat} {d : Nat → Dat} {lt : Nat → Nat → Bool} (h : HeapAt w0 wz B g fr fc way N N ib d lt (fun a => a < N) W) (hx : Blk W x (itC N (d N)) 86) :
    HeapAt w0 wz B g fr fc way N (N + 1) (fun a => if a = N then x else ib a) d lt (fun a => a < N) W := by
  obtain ⟨v, f, hs, hp, hh⟩ := h
  refine ⟨v, f, ⟨⟨hs.que.blk, ?_, hs.que.ne⟩, fun a ha => ?_, hs.bel, hs.lim, hs.old, hs.kept⟩, hp, hh⟩
  · rw [ptrs_congr (q := fun k => ib (f k)) (fun k hk => by
      have : f k < N := (hh.on _).2 ⟨k, hk, rfl⟩
      show (if f k = N then x else ib (f k)) = ib (f k)
      rw [if_neg (by omega)])]
    exact hs.que.row
  · by_cases e : a = N
    · subst e
      show Blk W (if a = a then x else ib a) _ _
      rw [if_pos rfl]
      exact hx
    · show Blk W (if a = N then x else ib a) _ _
      rw [if_neg e]
      exact hs.its a (by omega)
theorem HeapAt.below {w0 wz W W' : World} {B g : Nat} {fr fc : FuncId} {way : Int} {n N : Nat} {ib : Nat → Nat} {d : Nat → Dat} {lt : Nat → Nat → Bool} {S : Nat → Prop} (h : HeapAt w0 wz B g fr fc way n N ib d lt S W) (hb : Below W.heap.size W W') : HeapAt w0 wz B g fr fc way n N ib d lt S W' := by
  obtain ⟨v, f, hs, hp, hh⟩ := h
  exact ⟨v, f, hs.below hb, hp, hh⟩
/-- Only block x, and what is new, has turned, and x is none of the queue's. -/
theorem HeapAt.aside {w0 wz W W' : World} {B g x : Nat} {fr fc : FuncId} {way : Int} {n N : Nat} {ib : Nat → Nat} {d : Nat → Dat} {lt : Nat → Nat → Bool} {S : Nat → Prop} (h : HeapAt w0 wz B g fr fc way n N ib d lt S W) (hg : W.grownBy W' (some x)) (hx : B ≤ x) (hn : ∀ a, a < N → ib a ≠ x) {cs : Array Value} (hb : Blk W x cs 86) : HeapAt w0 wz B g fr fc way n N ib d lt S W' := by
  obtain ⟨v, f, hs, hp, hh⟩ := h
  refine ⟨v, f, ⟨⟨hs.que.blk.grown hg (fun e => hs.que.blk.ne hb (by decide) (by injection e)), World.ownsRow.kept hs.que.row hg (Or.inr fun e => hs.que.apart hb (by decide) e.symm), hs.que.ne⟩, fun a ha => (hs.its a ha).grown hg (fun e => hn a ha (by injection e)), hs.bel.grown hg hs.lim (fun k e => by injection e with e; omega), Nat.le_trans hs.lim hg.size, hs.old, fun b cs t h1 h2 h3 k => (hs.kept b cs t h1 h2 h3 k).grown hg (fun e => (hs.kept b cs t h1 h2 h3 k).ne hb h3 (by injection e))⟩, hp, hh⟩
theorem HeapAt.base {w0 wz W : World} {B g : Nat} {fr fc : FuncId} {way : Int} {n N : Nat} {ib : Nat → Nat} {d : Nat → Dat} {lt : Nat → Nat → Bool} {S : Nat → Prop} (h : HeapAt w0 wz B g fr fc way n N ib d lt S W) : HeapAt w0 W B g fr fc way n N ib d lt S W := by
  obtain ⟨v, f, hs, hp, hh⟩ := h
  exact ⟨v, f, hs.base, hp, hh⟩
theorem HeapAt.same {w0 wz W : World} {B g : Nat} {fr fc : FuncId} {way : Int} {n N : Nat} {ib : Nat → Nat} {d : Nat → Dat} {lt : Nat → Nat → Bool} {S S' : Nat → Prop} (h : HeapAt w0 wz B g fr fc way n N ib d lt S W) (e : ∀ a, S a ↔ S' a) : HeapAt w0 wz B g fr fc way n N ib d lt S' W := by
  obtain ⟨v, f, hs, hp, hh⟩ := h
  exact ⟨v, f, hs, hp, ⟨hh.inj, fun a => (e a).symm.trans (hh.on a)⟩⟩
theorem HeapAt.keeps {w0 wz W : World} {B g : Nat} {fr fc : FuncId} {way : Int} {n N : Nat} {ib : Nat → Nat} {d : Nat → Dat} {lt : Nat → Nat → Bool} {S : Nat → Prop} (h : HeapAt w0 wz B g fr fc way n N ib d lt S W) {b : Nat} {cs : Array Value} {t : TypeId} (k : Blk wz b cs t) (h1 : t ≠ 83) (h2 : t ≠ 84) (h3 : t ≠ 86) : Blk W b cs t := by
  obtain ⟨v, f, hs, _⟩ := h
  exact hs.kept b cs t h1 h2 h3 k
theorem HeapAt.facts {w0 wz W : World} {B g : Nat} {fr fc : FuncId} {way : Int} {n N : Nat} {ib : Nat → Nat} {d : Nat → Dat} {lt : Nat → Nat → Bool} {S : Nat → Prop} (h : HeapAt w0 wz B g fr fc way n N ib d lt S W) : Below B w0 W ∧ B ≤ W.heap.size ∧ B ≤ g ∧ g < W.heap.size ∧ ∀ a, a < N → ib a < W.heap.size := by
  obtain ⟨v, f, hs, _⟩ := h
  exact ⟨hs.bel, hs.lim, hs.old, hs.que.blk.lt, fun a ha => (hs.its a ha).lt⟩
def lenV : Value → Nat | .slice _ n _ => n | _ => 0
theorem srt_store_float (a : Addr) (n : Nat) (m : Mode) (w : World) : (store a (.float .f64 n) m).run Tryz.prog w = stored Tryz.prog w a (.float .f64 n) m := run_store _ w a _ m rfl
theorem row_keep {W W' : World} {B n : Nat} {t : TypeId} {v : Value} {xs : List Value} (h : W.ownsRow B t 1 v n xs) (hk : ∀ b cs, Blk W b cs t → Blk W' b cs t) : W'.ownsRow B t 1 v n xs := by
  refine ⟨h.1, ?_⟩
  rcases h.2 with h0 | ⟨q, cap, cur, rfl, hB, hg, rest⟩
  · exact .inl h0
  · exact .inr ⟨q, cap, cur, rfl, hB, (hk q cur ⟨hg⟩).row, rest⟩
theorem row_type {W : World} {B n b : Nat} {t : TypeId} {v : Value} {xs : List Value} (h : W.ownsRow B t 1 v n xs) (e : v.ownBlock = some b) : B ≤ b ∧ ∃ cs, Blk W b cs t := by
  rcases h.2 with ⟨rfl, _⟩ | ⟨q, cap, cur, rfl, hB, hg, _⟩
  · cases e
  · have : q = b := by
      have : some q = some b := e
      injection this
    subst this
    exact ⟨hB, cur, ⟨hg⟩⟩
/-- A row of another type, and what is new, has turned. -/
theorem Stt.off {W W' w0 wz : World} {B g n N : Nat} {fr fc : FuncId} {way : Int} {v u : Value} {f ib : Nat → Nat} {d : Nat → Dat} {t : TypeId} {k : Nat} {xs : List Value} (h : Stt W w0 wz B g fr fc way v n N f ib d) (hr : W.ownsRow B t 1 u k xs) (h1 : t ≠ 83) (h2 : t ≠ 84) (h3 : t ≠ 86) (hg : W.grownBy W' u.ownBlock) : Stt W' w0 W' B g fr fc way v n N f ib d := by
  have far : ∀ b cs s, s ≠ t → Blk W b cs s → some b ≠ u.ownBlock := fun b cs s hs hb e => by
    obtain ⟨_, ds, hd⟩ := row_type hr e.symm
    exact hb.ne hd hs rfl
  refine ⟨⟨h.que.blk.grown hg (far _ _ _ h1.symm h.que.blk), ?_, h.que.ne⟩, fun a ha => (h.its a ha).grown hg (far _ _ _ h3.symm (h.its a ha)), h.bel.grown hg h.lim (fun k e => (row_type hr e).1), Nat.le_trans h.lim hg.size, h.old, fun _ _ _ _ _ _ k => k⟩
  refine World.ownsRow.kept h.que.row hg ?_
  rcases hv : v.ownBlock with _ | b
  · exact Or.inl rfl
  · obtain ⟨_, cs, hb⟩ := row_type h.que.row hv
    exact Or.inr (far b cs _ h2.symm hb)
/-- What Order answers. -/
def OrdEnd (w : World) (n : Nat) (lt : Nat → Nat → Bool) (e : Ending) (w' : World) : Prop :=
  ∃ v out, e = .returned (.tuple #[v, .int .i64 0]) ∧ InOrder lt n out ∧ Own .i64 w' w.heap.size 3 v out ∧ Below w.heap.size w w'
set_option maxRecDepth 100000 in
set_option maxHeartbeats 4000000 in
theorem order_yes {A : Option Addr} {cap : Nat} {es : List Dat} {how conv : ByteArray} {w : World} {fr fc : FuncId} {way : Int} {rd : Nat → Dat} {cv : Nat → Nat → Int} (hh : (how, fr, fc, way) ∈ ordT) (hs : how.size ≤ maxLen) (hl : es.length ≤ 1000) (hR : RdE w A es)
    (o : Ord (ltV cv way)) (er : Enters fr) (ec : Enters fc) (hr : Readies w w.heap.size fr conv es.length (fun a => es.getD a ⟨⟨#[]⟩, 0, 0, ⟨#[]⟩, false⟩) rd) (hc : CmpOf w w.heap.size fc es.length rd cv) :
    Calls Tryz.prog 24 #[.slice A es.length cap, .string how, .string conv] w (OrdEnd w es.length (ltV cv way)) := by
  have CO := Lib.hid (orders_any w)
  have HH := Lib.hid hh
  have HS := Lib.hid hs
  have HR := Lib.hid hR
  have HO := Lib.hid o
  have HER := Lib.hid er
  have HEC := Lib.hid ec
  have HRD := Lib.hid hr
  have HCM := Lib.hid hc
  obtain ⟨n, hn⟩ : ∃ n, es.length = n := ⟨_, rfl⟩
  obtain ⟨B, hB⟩ : ∃ B, w.heap.size = B := ⟨_, rfl⟩
  rw [hn] at hl HRD HCM ⊢
  unfold OrdEnd
  rw [hB] at CO HRD HCM ⊢
  have HN := Lib.hid hn
  have HB := Lib.hid hB
  clear hh hs hR o er ec hr hc hn hB
  go_enter Tryz.func24, Tryz.ntmps24
  go_wp2_with fail
  refine CO.out.mono ?_
  rintro e W1 ⟨rfl, hm, hb⟩
  have hlk := (ords_look hm HS.out).1 _ _ _ HH.out
  have hB1 : B ≤ W1.heap.size := by have := hb.size; have := HB.out; omega
  have hb2 := ((hb.mono (show B ≤ B from Nat.le_refl _)).alloc hB1 (.cells #[fval fr, fval fc, .int .i64 way] 77)).alloc (by simp; omega) (.cells #[fval fr, fval fc, .int .i64 way, .slice none 0 0] 83)
  have q2 := Blk.new (W1.alloc (.cells #[fval fr, fval fc, .int .i64 way] 77)) #[fval fr, fval fc, .int .i64 way, .slice none 0 0] 83
  have o2 := (Blk.new W1 #[fval fr, fval fc, .int .i64 way] 77).alloc (.cells #[fval fr, fval fc, .int .i64 way, .slice none 0 0] 83)
  rw [World.size_alloc] at q2
  clear hm hb CO HH HS
  go_wp2_with fail
  clear hlk
  obtain ⟨g, hg⟩ : ∃ g, W1.heap.size = g := ⟨_, rfl⟩
  obtain ⟨W2, hW2⟩ : ∃ W2, (W1.alloc (.cells #[fval fr, fval fc, .int .i64 way] 77)).alloc (.cells #[fval fr, fval fc, .int .i64 way, .slice none 0 0] 83) = W2 := ⟨_, rfl⟩
  rw [hW2, hg] at q2 o2
  rw [hg] at hB1
  rw [hW2] at hb2
  rw [hg]
  have e2 := hW2
  clear hg
  rw [show (W1.alloc (Obj.cells #[Value.func (Fn.func fr) #[] #[], Value.func (Fn.func fc) #[] #[], Value.int IntKind.i64 way] 77)).alloc (Obj.cells #[Value.func (Fn.func fr) #[] #[], Value.func (Fn.func fc) #[] #[], Value.int IntKind.i64 way, Value.slice none 0 0] 83) = W2 from hW2]
  have hs2 : B ≤ W2.heap.size := by have := q2.lt; omega
  have h0 : HeapAt w W2 B (g + 1) fr fc way 0 0 (fun _ => 0) rd (ltV cv way) (fun a => a < 0) W2 :=
    ⟨.slice none 0 0, fun _ => 0, ⟨⟨q2, World.ownsRow_nil _ _ _ _, by intro e; cases e⟩, fun a ha => absurd ha (Nat.not_lt_zero _), hb2, hs2, by omega, fun _ _ _ _ _ _ k => k⟩, fun k h1 h2 => absurd h2 (Nat.not_lt_zero _), ⟨fun i j h1 => absurd h1 (Nat.not_lt_zero _), fun a => ⟨fun h => absurd h (Nat.not_lt_zero _), fun ⟨i, h, _⟩ => absurd h (Nat.not_lt_zero _)⟩⟩⟩
  have H0 := Lib.hid h0
  have HO2 := Lib.hid o2
  clear h0 o2 q2 hb2 e2 hW2 hs2
  go_loopw [27] (fun iv wr => ∃ k ib, k ≤ n ∧ iv = .int .i64 ((k : Nat) : Int) ∧ HeapAt w W2 B (g + 1) fr fc way k k ib rd (ltV cv way) (fun a => a < k) wr) (fun iv _ => n - (RowKit.intOf iv).toNat)
  case atStart => exact ⟨0, _, Nat.zero_le _, rfl, H0.out⟩
  case round =>
    obtain ⟨k, ib, hk, rfl, h⟩ := hrel
    obtain ⟨f1, f2, f3, f4, f5⟩ := h.facts
    have ho := h.keeps HO2.out (by decide) (by decide) (by decide)
    have H := Lib.hid h
    have F5 := Lib.hid f5
    have F1 := Lib.hid f1
    clear h f5 f1
    by_cases hlt : k < n
    · obtain ⟨b, off, hA, hcl⟩ := HR.out k (by rw [HN.out]; exact hlt)
      subst hA
      obtain ⟨dk, hdk⟩ : ∃ dk, es[k]'(by rw [HN.out]; exact hlt) = dk := ⟨_, rfl⟩
      rw [hdk] at hcl
      have hcw : ∀ i, i < 5 → wr.cell? ⟨b, off + k * 5 + i, none⟩ = (enC dk)[i]? := fun i hi => by
        have h1 := hcl i hi
        have h2 : (enC dk)[i]? = some ((enC dk)[i]'(by simpa [enC] using hi)) := List.getElem?_eq_getElem _
        have hl := World.block_lt_of_cell? w _ (h1.trans h2)
        rw [HB.out] at hl
        exact (F1.out.cell (p := ⟨b, off + k * 5 + i, none⟩) hl).trans h1
      have k0 : wr.cell? ⟨b, off + k * 5, none⟩ = some (.string dk.key) := hcw 0 (by omega)
      have k1 : wr.cell? ⟨b, off + k * 5 + 1, none⟩ = some (.int .i64 dk.kind) := hcw 1 (by omega)
      have k2 : wr.cell? ⟨b, off + k * 5 + 2, none⟩ = some (.float .f64 dk.num) := hcw 2 (by omega)
      have k3 : wr.cell? ⟨b, off + k * 5 + 3, none⟩ = some (.string dk.str) := hcw 3 (by omega)
      have k4 : wr.cell? ⟨b, off + k * 5 + 4, none⟩ = some (.bool dk.sub) := hcw 4 (by omega)
      have hge : es.getD k ⟨⟨#[]⟩, 0, 0, ⟨#[]⟩, false⟩ = dk := by
        rw [← hdk, List.getD_eq_getElem?_getD, List.getElem?_eq_getElem (by rw [HN.out]; exact hlt)]
        rfl
      have HGE := Lib.hid hge
      have g0 := (ho.alloc (.cells #[.string dk.key, .int .i64 dk.kind, .float .f64 dk.num, .string dk.str, .bool dk.sub] 62)).alloc (.cells #[.int .i64 (k : Int), .string dk.key, .int .i64 dk.kind, .float .f64 dk.num, .string dk.str, .bool dk.sub] 86)
      have c0 := g0.cell 0
      have hst := srt_store_float
      have her := HER.out
      clear hcl hcw hdk hge g0 ho
      go_wp2_with fail
      have bW := ((Below.refl wr.heap.size wr).alloc (Nat.le_refl _) (.cells #[.string dk.key, .int .i64 dk.kind, .float .f64 dk.num, .string dk.str, .bool dk.sub] 62)).alloc (by simp) (.cells #[.int .i64 (k : Int), .string dk.key, .int .i64 dk.kind, .float .f64 dk.num, .string dk.str, .bool dk.sub] 86)
      have xW := Blk.new (wr.alloc (.cells #[.string dk.key, .int .i64 dk.kind, .float .f64 dk.num, .string dk.str, .bool dk.sub] 62)) #[.int .i64 (k : Int), .string dk.key, .int .i64 dk.kind, .float .f64 dk.num, .string dk.str, .bool dk.sub] 86
      rw [World.size_alloc] at xW
      have hA3 := H.out.below bW
      obtain ⟨W3, hW3⟩ : ∃ W3, (wr.alloc (.cells #[.string dk.key, .int .i64 dk.kind, .float .f64 dk.num, .string dk.str, .bool dk.sub] 62)).alloc (.cells #[.int .i64 (k : Int), .string dk.key, .int .i64 dk.kind, .float .f64 dk.num, .string dk.str, .bool dk.sub] 86) = W3 := ⟨_, rfl⟩
      obtain ⟨x, hx⟩ : ∃ x, wr.heap.size + 1 = x := ⟨_, rfl⟩
      rw [hW3] at xW hA3
      rw [hx] at xW
      rw [hW3, hx]
      have hBx : B ≤ x := by omega
      have hix : ∀ a, a < k → ib a ≠ x := fun a ha e => by have := F5.out a ha; omega
      have hBW := hA3.facts.1
      clear k0 k1 k2 k3 k4 c0 hst her hW3 hx bW
      have HA3 := Lib.hid hA3
      have XW := Lib.hid xW
      refine (HRD.out W3 x k hlt hBW (by show Blk W3 x (itC k (es.getD k ⟨⟨#[]⟩, 0, 0, ⟨#[]⟩, false⟩)) _; rw [HGE.out]; exact XW.out)).mono ?_
      rintro e W4 ⟨⟨r, rfl⟩, hx4, hg4⟩
      have hA4 := (HA3.out.aside hg4 hBx hix XW.out).more hx4
      obtain ⟨ib2, hi2, hh2⟩ : ∃ ib2 : Nat → Nat, ib2 k = x ∧ HeapAt w W2 B (g + 1) fr fc way k (k + 1) ib2 rd (ltV cv way) (fun a => a < k) W4 := ⟨fun a => if a = k then x else ib a, if_pos rfl, hA4⟩
      have CP := hPush_any (x := k) HO.out HEC.out (HCM.out.compares (N := k + 1) (ib := ib2) (by omega)) (fun a (ha : a < k) => by omega) (by omega) hh2 (by omega) (by omega)
      rw [hi2] at CP
      have CP := Lib.hid CP
      have HS4 := Lib.hid hh2
      clear hx4 hg4 hA4 hh2 hA3 xW hix hBW hi2 HA3 XW H F5 F1
      go_wp2_with fail
      refine CP.out.mono ?_
      rintro e W5 ⟨⟨r5, rfl⟩, h5⟩
      have H5 := Lib.hid (h5.same (S' := fun a => a < k + 1) (fun a => by constructor <;> intro h <;> omega))
      clear h5 CP HS4
      go_wp2_with fail
      go_roundw
      case rel => exact ⟨k + 1, ib2, by omega, by go_num, H5.out⟩
      case measure => simp [RowKit.intOf]; omega
    · obtain rfl : k = n := by omega
      have hmk : ∀ W : World, (Instr.makeSlice 58 (.int .i64 0) (.int .i64 (k : Int))).run Tryz.prog W = .ok (.slice (some ⟨W.heap.size, 0, none⟩) 0 k) (W.alloc (.cells (madeCells #[Value.int .i64 0] k) 3)) := fun W => by
        obtain ⟨i0, hi, hz0, hz1, hz2⟩ := info_parts info_i64
        have := run_make (P := Tryz.prog) W 58 3 i0 (.int .i64 0) Tryz.underlying58 hi hz0 .i64 .i64 0 (k : Int) (by omega) (by omega) (by rw [hz2]; omega) (by omega)
        rw [hz1, Int.toNat_natCast, Nat.mul_one] at this
        exact this
      have hown : (wr.alloc (.cells (madeCells #[Value.int .i64 0] k) 3)).ownsRow B 3 1 (.slice (some ⟨wr.heap.size, 0, none⟩) 0 k) 0 [] := World.ownsRow_made wr _ k f2 (by unfold maxLen; omega) (by rw [size_madeCells]; simp)
      have hA3 := (H.out.below ((Below.refl wr.heap.size wr).alloc (Nat.le_refl _) (.cells (madeCells #[Value.int .i64 0] k) 3)))
      have HA3 := Lib.hid hA3.base
      have HOW := Lib.hid hown
      clear hA3 hown ho H F5 F1 hlt f3 f4
      go_wp2_with fail
      obtain ⟨W3, hW3⟩ : ∃ W3, wr.alloc (.cells (madeCells #[Value.int .i64 0] k) 3) = W3 := ⟨_, rfl⟩
      rw [hW3] at HA3 HOW
      rw [hW3]
      clear hW3 hmk f2
      go_loopw [14] (fun sv w2 => ∃ (lv : Value) (m : Nat) (out : List Nat) (q : Value) (f : Nat → Nat), lv = sv ∧ Own .i64 w2 B 3 lv out ∧ Stt w2 w w2 B (g + 1) fr fc way q m k f ib rd ∧ Heap (ltV cv way) f m ∧ Taken (ltV cv way) k out f m) (fun lv _ => k - lenV lv)
      case atStart =>
        obtain ⟨q, f, hs, hp, hh⟩ := HA3.out
        exact ⟨_, k, [], q, f, rfl, HOW.out, hs, hp, Taken.start hh⟩
      case round =>
        clear HA3 HOW
        obtain ⟨lv, m, out, q, f, rfl, hO, hs, hp, ht⟩ := hrel
        have hle := ht.len
        have CL := qLen_any hs.que
        by_cases hm : m = 0
        · subst hm
          have HE := Lib.hid ht.done
          have HOw := Lib.hid hO
          have HBl := Lib.hid hs.bel
          have CL := Lib.hid CL
          clear hO hs hp ht
          go_wp2_with fail
          refine CL.out.mono ?_
          rintro e w' ⟨rfl, rfl⟩
          go_wp2_with fail
          go_ret2
          exact ⟨_, out, rfl, HE.out, HOw.out, HBl.out⟩
        · obtain ⟨m0, rfl⟩ : ∃ m0, m = m0 + 1 := ⟨m - 1, by omega⟩
          obtain ⟨m1, hm1⟩ : ∃ m1, m0 + 1 = m1 := ⟨_, rfl⟩
          have CPo := hPop_any HO.out HEC.out (HCM.out.compares (N := k) (ib := ib) (Nat.le_refl _)) (fun a (ha : a < k ∧ a ∉ out) => ha.1) (by omega) hs hp ht.some'
          rw [hm1] at CL
          have hb1 : 1 ≤ m1 ∧ m1 ≤ 1000 := by omega
          have hgt : (0 : Int) < (m1 : Int) := by omega
          have hf0 : f 0 < k := ((ht.some'.on _).2 ⟨0, by omega, rfl⟩).1
          obtain ⟨x, hx⟩ : ∃ x, f 0 = x := ⟨_, rfl⟩
          rw [hx] at CPo hf0
          have HT := Lib.hid ht
          have HP := Lib.hid hp
          have HX := Lib.hid hx
          have HOw := Lib.hid hO
          have CL := Lib.hid CL
          have CPo := Lib.hid CPo
          clear hO hs hp ht hx hm1
          go_wp2_with fail
          refine CL.out.mono ?_
          rintro e w' ⟨rfl, rfl⟩
          go_wp2_with fail
          refine CPo.out.mono ?_
          rintro e W4 ⟨rfl, h4⟩
          have hrow := row_keep HOw.out (fun b cs hb => h4.keeps hb (by decide) (by decide) (by decide))
          obtain ⟨q4, f4, hs4, hp4, hh4⟩ := h4
          have hxb := (hs4.its x hf0).at
          have hta := fun w => ta_item (iptr (ib x)) w
          obtain ⟨i0, hi, hz0, hz1, hz2⟩ := info_parts info_i64
          have HS4 := Lib.hid hs4
          have H4 := Lib.hid (And.intro hp4 hh4)
          have hlim := hs4.lim
          have hol : out.length ≤ 1000 := by omega
          clear hs4 hp4 hh4 CL CPo
          go_wp2_with (at_builtin; refine wpList_append_own _ rfl _ _ 58 rfl B 3 i0 (.int .i64 0) 1 8 Tryz.underlying58 hi hz0 hz1 hz2 rfl (by decide) _ _ _ rfl (hrow.alloc _) ⟨W4.heap.size, 0, none⟩ 1 1 [.int .i64 (x : Int)] rfl rfl (cell_one_new _ _ _) ?c2 ?c3 ?c4 ?c5 ?_)
          case c2 => simp [Value.oneCell']
          case c3 => unfold maxLen; omega
          case c4 => omega
          case c5 => simp; omega
          intro v' w5 hown' hgrow _
          have hs5 := (HS4.out.below ((Below.refl W4.heap.size W4).alloc (Nat.le_refl _) (.cells #[.int .i64 (x : Int)] 3))).off (hrow.alloc _) (by decide) (by decide) (by decide) hgrow
          have hO5 : Own .i64 w5 B 3 v' (out ++ [x]) := by
            unfold Own
            rw [List.length_append, nums_append]
            exact hown'
          have ht5 := Taken.step HO.out HT.out HP.out HX.out H4.out.2
          have hl5 : lenV v' = out.length + 1 := by
            rcases hown'.2 with ⟨_, h0⟩ | ⟨_, _, _, rfl, _⟩
            · omega
            · rfl
          have hl4 : lenV lv = out.length := by
            rcases hrow.2 with ⟨rfl, h0⟩ | ⟨_, _, _, rfl, _⟩
            · exact h0.symm
            · rfl
          have H5 := Lib.hid (show Own .i64 w5 B 3 v' (out ++ [x]) ∧ Stt w5 w w5 B (g + 1) fr fc way q4 m0 k f4 ib rd ∧ Heap (ltV cv way) f4 m0 ∧ Taken (ltV cv way) k (out ++ [x]) f4 m0 from ⟨hO5, hs5, H4.out.1, ht5⟩)
          have HLL := Lib.hid (And.intro hl5 hl4)
          clear hs5 hO5 ht5 hl5 hl4 hown' hgrow hrow hxb hta HS4 H4 HT HP HOw
          go_wp2
          go_roundw
          case rel => exact ⟨_, m0, out ++ [x], q4, f4, rfl, H5.out⟩
          case measure => rw [HLL.out.1, HLL.out.2]; omega
end Go.Proofs.YtdliiohjbnlieaaGreatDoor

namespace Go.Proofs.YtdliiohjbnlieaaGreatDoor
open Go.RowKit Go.Lib

theorem en_leave : Enters fLeave := fun args w => (enters_of Tryz.func42 (by kernel_rfl) rfl) args w
theorem en_alike : Enters fAlike := fun args w => (enters_of Tryz.func43 (by kernel_rfl) rfl) args w
theorem cmp_alike (w0 : World) (B n : Nat) (d : Nat → Dat) : CmpOf w0 B fAlike n d (fun _ _ => 0) := by
  intro W a b p q _ _ _ _ _
  go_enter Tryz.func43, Tryz.ntmps43
  go_wp2
  go_ret
  exact ⟨rfl, Below.refl _ _⟩
/-- A comparison that is one gives an order. -/
theorem ord_of {cv : Nat → Nat → Int} {way : Int} (hw : way = 1 ∨ way = -1) (hb : ∀ a b, -1000 ≤ cv a b ∧ cv a b ≤ 1000) (hs : ∀ a b, cv b a = -cv a b) (ht : ∀ a b c, cv a b ≤ 0 → cv b c ≤ 0 → cv a c ≤ 0 ∧ (cv a c = 0 → cv a b = 0 ∧ cv b c = 0)) (he : ∀ a b c, cv a b = 0 → cv b c = 0 → cv a c = 0) : Ord (ltV cv way) := by
  have key : ∀ a b, ltV cv way a b = true ↔ (cv a b * way < 0 ∨ (cv a b = 0 ∧ a < b)) := fun a b => by
    have h1 := hb a b
    have h2 : IntKind.i64.wrap (cv a b * way) = cv a b * way := IntWalk.i64_in _ (by rcases hw with rfl | rfl <;> omega)
    unfold ltV lessB
    rw [h2]
    by_cases e : cv a b * way = 0
    · rw [if_pos e, decide_eq_true_eq]
      rcases hw with rfl | rfl <;> omega
    · rw [if_neg e, decide_eq_true_eq]
      rcases hw with rfl | rfl <;> omega
  have nkey : ∀ a b, ltV cv way a b = false ↔ ¬ (cv a b * way < 0 ∨ (cv a b = 0 ∧ a < b)) := fun a b => by rw [← key, Bool.not_eq_true]
  refine ⟨fun a b h => ?_, fun a b hne h => ?_, fun a b c h1 h2 => ?_⟩
  · rw [key] at h
    rw [nkey]
    have := hs a b
    rcases hw with rfl | rfl <;> omega
  · rw [nkey] at h
    rw [key]
    have := hs a b
    rcases hw with rfl | rfl <;> omega
  · rw [key] at h1 h2 ⊢
    have e1 := hs a b
    have e2 := hs b c
    have e3 := hs a c
    have t1 := ht a b c
    have t2 := ht c b a
    have t3 := he a b c
    rcases hw with rfl | rfl
    · by_cases z : cv a c = 0
      · by_cases y : cv a b ≤ 0 ∧ cv b c ≤ 0
        · have := (t1 y.1 y.2).2 z; omega
        · omega
      · by_cases y : cv a b ≤ 0 ∧ cv b c ≤ 0
        · have := (t1 y.1 y.2).1; omega
        · omega
    · by_cases z : cv a c = 0
      · by_cases y : cv c b ≤ 0 ∧ cv b a ≤ 0
        · have := (t2 y.1 y.2).2 (by omega); omega
        · omega
      · by_cases y : cv c b ≤ 0 ∧ cv b a ≤ 0
        · have := (t2 y.1 y.2).1; omega
        · omega
end Go.Proofs.YtdliiohjbnlieaaGreatDoor

namespace Go.Proofs.YtdliiohjbnlieaaGreatDoor
open Go.RowKit Go.Lib

theorem Rd.far {κ : IntKind} {W : World} {A : Option Addr} {xs : List Nat} (h : Rd κ W A xs) {g j : Nat} (hne : Off A g) (u : Value) : Rd κ (W.setCell ⟨g, j, none⟩ u) A xs := h.kept (grown_set (grown_refl W (some g)) u) hne
end Go.Proofs.YtdliiohjbnlieaaGreatDoor

namespace Go.Proofs.YtdliiohjbnlieaaGreatDoor

/-- A digit as a byte. -/
def db (d : Nat) : UInt8 := UInt8.ofNat (48 + d)
/-- A number's decimal text. -/
def decs (n : Nat) : List UInt8 := if n = 0 then [48] else (dig 10 n).reverse.map db
end Go.Proofs.YtdliiohjbnlieaaGreatDoor

namespace Go.Proofs.YtdliiohjbnlieaaGreatDoor
open Go.RowKit Go.Lib

/-- A block of two cells that is there. -/
structure Two (W : World) (g : Nat) (a b : Value) (t : TypeId) : Prop where
  row : W.heap[g]? = some (.cells #[a, b] t (0, 0))
theorem Two.facts {W : World} {g : Nat} {a b : Value} {t : TypeId} (h : Two W g a b t) : W.cell? ⟨g, 0, none⟩ = some a ∧ W.cell? ⟨g, 1, none⟩ = some b ∧ W.frozen? ⟨g, 0, none⟩ = false ∧ W.frozen? ⟨g, 1, none⟩ = false ∧ g < W.heap.size := by
  have h0 := cell_of_row W _ 0 _ _ _ h.row
  have h1 := cell_of_row W _ 1 _ _ _ h.row
  simp only [List.getElem?_toArray, List.getElem?_cons_zero, List.getElem?_cons_succ] at h0 h1
  exact ⟨h0, h1, frozen_of_row W _ 0 _ _ h.row, frozen_of_row W _ 1 _ _ h.row, (Array.getElem?_eq_some_iff.1 h.row).1⟩
theorem Two.below {W W' : World} {g : Nat} {a b : Value} {t : TypeId} (h : Two W g a b t) (hb : Below W.heap.size W W') : Two W' g a b t := ⟨(hb.block g (Array.getElem?_eq_some_iff.1 h.row).1).trans h.row⟩
theorem Two.new (w : World) (a b : Value) (t : TypeId) : Two (w.alloc (.cells #[a, b] t)) w.heap.size a b t := ⟨heap_alloc_new w _⟩
theorem Two.alloc {W : World} {g : Nat} {a b : Value} {t : TypeId} (h : Two W g a b t) (o : Obj) : Two (W.alloc o) g a b t := ⟨(Below.heap_alloc W o g (Array.getElem?_eq_some_iff.1 h.row).1).trans h.row⟩

end Go.Proofs.YtdliiohjbnlieaaGreatDoor

namespace Go.Proofs.YtdliiohjbnlieaaGreatDoor
open Go.RowKit Go.Lib

/-- The bits without the sign. -/
def mag (b : Nat) : Nat := b % 9223372036854775808
theorem run_f64bits (b : Nat) (W : World) : (callFunc 36 #[.float .f64 b]).run Tryz.prog W = .ok (.value (.int .u64 b)) W := by
  rw [run_callFunc_extern Tryz.func36 (by kernel_rfl) (by kernel_rfl) (by kernel_rfl) (e := Extern.MathFloatBits.float64bits) (by kernel_rfl)]
  rfl
def nanB (b : Nat) : Bool := FloatKind.f64.format.order b b != some .eq
end Go.Proofs.YtdliiohjbnlieaaGreatDoor

namespace Go.Proofs.YtdliiohjbnlieaaGreatDoor
open Go.RowKit Go.Lib

theorem dbl_sign : Ieee.double.signWeight = 9223372036854775808 := by decide
theorem dbl_binade : Ieee.double.binade = 4503599627370496 := by decide
theorem dbl_inf : Ieee.double.infRung = 9218868437227405312 := by decide
theorem dbl_least : Ieee.double.leastPlace = -1074 := by decide
/-- A finite float's natural and power. -/
def manF (r : Nat) : Nat := if r < 4503599627370496 then r else 4503599627370496 + r % 4503599627370496
def expF (r : Nat) : Int := if r < 4503599627370496 then -1074 else -1074 + ((r / 4503599627370496 - 1 : Nat) : Int)
theorem read_fin {b : Nat} (h : mag b < 9218868437227405312) : Ieee.double.read b = .number (b / 9223372036854775808 % 2 == 1) (manF (mag b)) (expF (mag b)) := by
  unfold Ieee.Format.read manF expF mag at *
  simp only [dbl_sign, dbl_binade, dbl_inf, dbl_least]
  split
  · rfl
  · rfl
theorem read_inf {b : Nat} (h : mag b = 9218868437227405312) : Ieee.double.read b = .infinity (b / 9223372036854775808 % 2 == 1) := by
  unfold Ieee.Format.read mag at *
  simp only [dbl_sign, dbl_binade, dbl_inf]
  rw [if_neg (by omega), if_neg (by omega), if_pos h]
theorem read_nan {b : Nat} (h : 9218868437227405312 < mag b) : Ieee.double.read b = .nan (b / 9223372036854775808 % 2 == 1) (mag b - 9218868437227405312) := by
  unfold Ieee.Format.read mag at *
  simp only [dbl_sign, dbl_binade, dbl_inf]
  rw [if_neg (by omega), if_neg (by omega), if_neg (by omega)]
theorem nan_no {b : Nat} (h : mag b ≤ 9218868437227405312) : nanB b = false := by
  show (Ieee.double.order b b != some .eq) = false
  unfold Ieee.Format.order
  rcases Nat.lt_or_ge (mag b) 9218868437227405312 with h1 | h1
  · rw [read_fin h1]
    simp [Ieee.Datum.order]
  · rw [read_inf (by omega)]
    simp [Ieee.Datum.order]
theorem nan_yes {b : Nat} (h : 9218868437227405312 < mag b) : nanB b = true := by
  show (Ieee.double.order b b != some .eq) = true
  unfold Ieee.Format.order
  rw [read_nan h]
  rfl
end Go.Proofs.YtdliiohjbnlieaaGreatDoor

namespace Go.Proofs.YtdliiohjbnlieaaGreatDoor
open Go.RowKit Go.Lib

/-- A row of numbers is not touched by a store where no number is. -/
theorem Rd.other {κ : IntKind} {W : World} {A : Option Addr} {xs : List Nat} (h : Rd κ W A xs) {g j : Nat} {u0 : Value} (hc : W.cell? ⟨g, j, none⟩ = some u0) (hu : ∀ z, u0 ≠ .int κ z) (u : Value) : Rd κ (W.setCell ⟨g, j, none⟩ u) A xs := fun i hi => by
  obtain ⟨g', o, e, hc'⟩ := h i hi
  refine ⟨g', o, e, ?_⟩
  have hne : (⟨g', o + i, none⟩ : Addr) ≠ ⟨g, j, none⟩ := fun e2 => by
    rw [e2] at hc'
    rw [hc] at hc'
    exact hu _ (Option.some.inj hc')
  rw [World.cell?_setCell_other _ _ _ _ (fun e3 => hne e3.symm)]
  exact hc'
end Go.Proofs.YtdliiohjbnlieaaGreatDoor

namespace Go.Proofs.YtdliiohjbnlieaaGreatDoor

/-- What the float of rung r is, counted in the least one. -/
def V (r : Nat) : Nat := if r < 4503599627370496 then r else (4503599627370496 + r % 4503599627370496) * 2 ^ (r / 4503599627370496 - 1)
def U (r : Nat) : Nat := 2 ^ (r / 4503599627370496 - 1)
theorem U_pos (r : Nat) : 0 < U r := Nat.pow_pos (by omega)
theorem V_succ (r : Nat) : V (r + 1) = V r + U r := by
  unfold V U
  by_cases h : r + 1 < 4503599627370496
  · rw [if_pos h, if_pos (by omega), show r / 4503599627370496 - 1 = 0 by omega, Nat.pow_zero]
  · rw [if_neg h]
    by_cases h2 : r < 4503599627370496
    · obtain rfl : r = 4503599627370495 := by omega
      decide
    · rw [if_neg h2]
      by_cases h3 : (r + 1) % 4503599627370496 = 0
      · rw [h3, show (r + 1) / 4503599627370496 - 1 = r / 4503599627370496 - 1 + 1 by omega, Nat.pow_succ, show r % 4503599627370496 = 4503599627370495 by omega]
        generalize 2 ^ (r / 4503599627370496 - 1) = z
        omega
      · rw [show (r + 1) / 4503599627370496 = r / 4503599627370496 by omega, show (r + 1) % 4503599627370496 = r % 4503599627370496 + 1 by omega, ← Nat.add_assoc, Nat.succ_mul]
theorem V_lt {r s : Nat} (h : r < s) : V r < V s := by
  induction s with
  | zero => omega
  | succ s ih =>
    have h1 := V_succ s
    have h2 := U_pos s
    rcases Nat.lt_or_ge r s with h3 | h3
    · have := ih h3; omega
    · obtain rfl : r = s := by omega
      omega
end Go.Proofs.YtdliiohjbnlieaaGreatDoor

namespace Go.Proofs.YtdliiohjbnlieaaGreatDoor
open Go.RowKit Go.Lib

theorem dbl_frac : Ieee.double.fractionBits = 52 := rfl
theorem word_pos (r : Nat) : Ieee.double.word false r = r := rfl
theorem log2_bd {n : Nat} (h : 0 < n) : 2 ^ n.log2 ≤ n ∧ n < 2 ^ (n.log2 + 1) := ⟨Nat.log2_self_le (by omega), Nat.lt_log2_self⟩
theorem log2_is {n k : Nat} (h1 : 2 ^ k ≤ n) (h2 : n < 2 ^ (k + 1)) : n.log2 = k := by
  have h0 : 0 < n := Nat.lt_of_lt_of_le (Nat.pow_pos (by omega)) h1
  obtain ⟨a, b⟩ := log2_bd h0
  have c1 := (Nat.pow_lt_pow_iff_right (show 1 < 2 by omega)).1 (Nat.lt_of_le_of_lt h1 b)
  have c2 := (Nat.pow_lt_pow_iff_right (show 1 < 2 by omega)).1 (Nat.lt_of_le_of_lt a h2)
  omega
theorem log2_mul {m : Nat} (j : Nat) (h : 0 < m) : (m * 2 ^ j).log2 = m.log2 + j := by
  obtain ⟨a, b⟩ := log2_bd h
  refine log2_is ?_ ?_
  · rw [Nat.pow_add]; exact Nat.mul_le_mul_right _ a
  · rw [Nat.add_right_comm, Nat.pow_add]; exact Nat.mul_lt_mul_of_pos_right b (Nat.pow_pos (by omega))
theorem log2_le52 {m : Nat} (h : 0 < m) (h2 : m < 9007199254740992) : m.log2 ≤ 52 := by
  have := (log2_bd h).1
  have h3 : 2 ^ m.log2 < 2 ^ 53 := Nat.lt_of_le_of_lt this h2
  have := (Nat.pow_lt_pow_iff_right (show 1 < 2 by omega)).1 h3
  omega
theorem log2_52 {m : Nat} (h : 4503599627370496 ≤ m) (h2 : m < 9007199254740992) : m.log2 = 52 := log2_is h h2
theorem cut_exact (m j : Nat) (hm : 0 < m) : Ieee.Toward.even.cut false (m * 2 ^ j) j = m := by
  have hp : 0 < 2 ^ j := Nat.pow_pos (by omega)
  have hl := log2_mul j hm
  have hmin : min j ((m * 2 ^ j).log2 + 2) = j := by omega
  unfold Ieee.Toward.cut
  simp only [hmin, Nat.one_shiftLeft, Nat.mul_div_cancel _ hp, Nat.mul_mod_left]
  have h1 : (2 ^ j == 0) = false := by rw [beq_eq_false_iff_ne]; omega
  simp [h1]
/-- A number that is a float is written as it. -/
theorem nearest_exact {m j e : Nat} {place : Int} (hm : 0 < m) (hm2 : m < 9007199254740992) (he : place + (j : Int) + 1074 = (e : Int)) (hc : e = 0 ∨ 4503599627370496 ≤ m) :
    Ieee.double.nearest false (m * 2 ^ j) place = min (e * 4503599627370496 + m) 9218868437227405312 := by
  have hne : m * 2 ^ j ≠ 0 := Nat.pos_iff_ne_zero.1 (Nat.mul_pos hm (Nat.pow_pos (by omega)))
  have hl := log2_mul j hm
  have hb := log2_le52 hm hm2
  have hlast : max (place + ((m * 2 ^ j).log2 : Int) - ((52 : Nat) : Int)) (-1074) = place + (j : Int) := by
    rcases hc with h | h
    · omega
    · have := log2_52 h hm2; omega
  unfold Ieee.Format.nearest
  rw [if_neg hne]
  simp only [dbl_frac, dbl_least, dbl_binade, dbl_inf, hlast]
  rw [show (place - (place + (j : Int))).toNat = 0 by omega, show (place + (j : Int) - place).toNat = j by omega, Nat.shiftLeft_zero, cut_exact m j hm, show (place + (j : Int) - -1074).toNat = e by omega, word_pos]
/-- The bits of a natural below 2^53 as a float. -/
def fw (m : Nat) : Nat := if m = 0 then 0 else (m.log2 + 1022) * 4503599627370496 + m * 2 ^ (52 - m.log2)
theorem expF_lo (r : Nat) : -1074 ≤ expF r := by unfold expF; split <;> omega
theorem val_V {r : Nat} : manF r <<< (expF r - -1074).toNat = V r := by
  rw [Nat.shiftLeft_eq]
  unfold manF expF V
  split
  · rw [show ((-1074 : Int) - -1074).toNat = 0 by omega]; simp
  · congr 2
    omega
/-- Which of two floats that are finite and not below nought is the greater one. -/
theorem order_V {r s : Nat} (hr : r < 9218868437227405312) (hs : s < 9218868437227405312) : Ieee.double.order r s = some (compare (r : Int) (s : Int)) := by
  have hm : ∀ x, x < 9218868437227405312 → mag x = x := fun x h => Nat.mod_eq_of_lt (by omega)
  have hg : ∀ x, x < 9218868437227405312 → (x / 9223372036854775808 % 2 == 1) = false := fun x h => by rw [beq_eq_false_iff_ne]; omega
  unfold Ieee.Format.order
  rw [read_fin (by rw [hm r hr]; exact hr), hm r hr, read_fin (by rw [hm s hs]; exact hs), hm s hs, hg r hr, hg s hs]
  show some (compare (Ieee.signed false (manF r) (expF r - min (expF r) (expF s)).toNat) (Ieee.signed false (manF s) (expF s - min (expF r) (expF s)).toNat)) = _
  have h1 := expF_lo r
  have h2 := expF_lo s
  obtain ⟨c, hc⟩ : ∃ c : Nat, min (expF r) (expF s) + 1074 = (c : Int) := ⟨(min (expF r) (expF s) + 1074).toNat, by omega⟩
  have key : ∀ x : Nat, (expF x - -1074).toNat = (expF x - min (expF r) (expF s)).toNat + c → manF x * 2 ^ (expF x - min (expF r) (expF s)).toNat * 2 ^ c = V x := fun x hx => by
    rw [← val_V, Nat.shiftLeft_eq, hx, Nat.pow_add, Nat.mul_assoc]
  have kr := key r (by omega)
  have ks := key s (by omega)
  show some (compare ((manF r <<< _ : Nat) : Int) ((manF s <<< _ : Nat) : Int)) = _
  rw [Nat.shiftLeft_eq, Nat.shiftLeft_eq]
  generalize manF r * 2 ^ (expF r - min (expF r) (expF s)).toNat = x at *
  generalize manF s * 2 ^ (expF s - min (expF r) (expF s)).toNat = y at *
  have hp : 0 < 2 ^ c := Nat.pow_pos (by omega)
  congr 1
  rcases Nat.lt_trichotomy r s with h | h | h
  · rw [Int.compare_eq_lt.2 (show (r : Int) < (s : Int) by omega), Int.compare_eq_lt]
    have hv := V_lt h
    rw [← kr, ← ks] at hv
    have := Nat.lt_of_mul_lt_mul_right hv
    omega
  · subst h
    have : x = y := Nat.eq_of_mul_eq_mul_right hp (by rw [kr, ks])
    rw [this, Int.compare_eq_eq.2 rfl, Int.compare_eq_eq.2 rfl]
  · rw [Int.compare_eq_gt.2 (show (s : Int) < (r : Int) by omega), Int.compare_eq_gt]
    have hv := V_lt h
    rw [← kr, ← ks] at hv
    have := Nat.lt_of_mul_lt_mul_right hv
    omega
end Go.Proofs.YtdliiohjbnlieaaGreatDoor

namespace Go.Proofs.YtdliiohjbnlieaaGreatDoor
open Go.RowKit Go.Lib

theorem mul_one {m k : Nat} (h1 : 4503599627370496 ≤ m) (h2 : m < 9007199254740992) (hk0 : 1 ≤ k) (hk : k ≤ 2046) : floatBits .mul .f64 4607182418800017408 (k * 4503599627370496 + (m - 4503599627370496)) = some (k * 4503599627370496 + (m - 4503599627370496)) := by
  obtain ⟨y, hy⟩ : ∃ y, k * 4503599627370496 + (m - 4503599627370496) = y := ⟨_, rfl⟩
  rw [hy]
  have hmy : mag y = y := Nat.mod_eq_of_lt (by omega)
  have hman : manF y = m := by rw [manF, if_neg (by omega)]; omega
  have hexp : expF y = (k : Int) - 1075 := by rw [expF, if_neg (by omega)]; omega
  show (((Ieee.double.read 4607182418800017408).product (Ieee.double.read y)).map Ieee.double.write) = _
  rw [show Ieee.double.read 4607182418800017408 = .number false 4503599627370496 (-52) by decide, read_fin (by rw [hmy]; omega), hmy, hman, hexp, show (y / 9223372036854775808 % 2 == 1) = false by rw [beq_eq_false_iff_ne]; omega]
  show some (Ieee.double.nearest false (4503599627370496 * m) (-52 + ((k : Int) - 1075))) = _
  have hx := nearest_exact (m := m) (j := 52) (e := k - 1) (place := -52 + ((k : Int) - 1075)) (by omega) h2 (by omega) (Or.inr h1)
  rw [Nat.mul_comm 4503599627370496 m, show m * 4503599627370496 = m * 2 ^ 52 from rfl, hx]
  exact congrArg some (by omega)

end Go.Proofs.YtdliiohjbnlieaaGreatDoor

namespace Go.Proofs.YtdliiohjbnlieaaGreatDoor
open Go.RowKit Go.Lib

/-- What stands ahead of the digits that are written already. -/
def ahead (m : Nat) : List UInt8 := if m < 10 then [] else decs (m / 10)
end Go.Proofs.YtdliiohjbnlieaaGreatDoor

namespace Go.Proofs.YtdliiohjbnlieaaGreatDoor
open Go.RowKit Go.Lib

/-- A float with its sign turned, if so told. -/
def turned (b : Bool) (r : Nat) : Nat := if b then Op.negFloat .f64 r else r
end Go.Proofs.YtdliiohjbnlieaaGreatDoor

namespace Go.Proofs.YtdliiohjbnlieaaGreatDoor

theorem mag_no {r : Nat} (h : r < 9218868437227405312) : mag r = r := Nat.mod_eq_of_lt (by omega)
end Go.Proofs.YtdliiohjbnlieaaGreatDoor

namespace Go.Proofs.YtdliiohjbnlieaaGreatDoor
open Go.RowKit Go.Lib

theorem mag_lt (b : Nat) : mag b < 9223372036854775808 := by unfold mag; omega
end Go.Proofs.YtdliiohjbnlieaaGreatDoor

namespace Go.Proofs.YtdliiohjbnlieaaGreatDoor
open Go.RowKit Go.Lib

def qN : Nat := 9221120237041090561
/-- All NaNs are one. -/
def cn (b : Nat) : Nat := if 9218868437227405312 < mag b then qN else b
theorem cn_nan {b : Nat} (h : 9218868437227405312 < mag b) : cn b = qN := if_pos h
theorem cn_id {b : Nat} (h : mag b ≤ 9218868437227405312) : cn b = b := if_neg (by omega)
end Go.Proofs.YtdliiohjbnlieaaGreatDoor

namespace Go.Proofs.YtdliiohjbnlieaaGreatDoor
open Go.RowKit Go.Lib

theorem Own.more {κ : IntKind} {w : World} {B : Nat} {t : TypeId} {v : Value} {xs ys : List Nat} {k m : Nat} {cs : List Value} (h : w.ownsRow B t 1 v (k + m) (nums κ xs ++ cs)) (hc : cs = nums κ ys) (hk : k = xs.length) (hm : m = ys.length) : Own κ w B t v (xs ++ ys) := by
  subst hc
  exact Own.append h hk hm
end Go.Proofs.YtdliiohjbnlieaaGreatDoor

namespace Go.Proofs.YtdliiohjbnlieaaGreatDoor
open Go.RowKit Go.Lib

set_option maxRecDepth 100000 in
set_option maxHeartbeats 1000000 in
/-- The same bits, or both a NaN. -/
theorem same_true (x y : Nat) (w : World) (_hx : x < 18446744073709551616) (hy : y < 18446744073709551616) (h : cn x = cn y) : Calls Tryz.prog 26 #[.float .f64 x, .float .f64 y] w fun e w' => e = .returned (.bool true) ∧ w = w' := by
  have b1 := fun W => run_f64bits x W
  have b2 := fun W => run_f64bits y W
  by_cases hn : 9218868437227405312 < mag x
  · have hn2 : 9218868437227405312 < mag y := by
      rw [cn_nan hn] at h
      rcases Nat.lt_or_ge 9218868437227405312 (mag y) with h1 | h1
      · exact h1
      · rw [cn_id h1] at h
        rw [← h] at h1
        exact absurd h1 (by decide)
    have t1 : (FloatKind.f64.format.order x x != some .eq) = true := nan_yes hn
    have t2 : (FloatKind.f64.format.order y y != some .eq) = true := nan_yes hn2
    clear hn hn2 h
    go_enter Tryz.func26, Tryz.ntmps26
    go_wp2
    go_ret
    exact ⟨rfl, rfl⟩
  · have hxy : x = y := by
      rw [cn_id (by omega)] at h
      unfold cn at h
      split at h
      · rw [h] at hn
        exact absurd (by decide : 9218868437227405312 < mag qN) hn
      · exact h
    subst hxy
    have t1 : (FloatKind.f64.format.order x x != some .eq) = false := nan_no (by omega)
    have t3 : ((x : Int) == (x : Int)) = true := by rw [beq_iff_eq]
    clear hn h
    go_enter Tryz.func26, Tryz.ntmps26
    go_wp2
    go_ret
    exact ⟨rfl, rfl⟩
end Go.Proofs.YtdliiohjbnlieaaGreatDoor

namespace Go.Proofs.YtdliiohjbnlieaaGreatDoor
open Go.RowKit Go.Lib

/-- Floats in order: a whole number for each that is no NaN. -/
def keyZ (x : Nat) : Int := if (x / 9223372036854775808 % 2 == 1) = true then -(mag x : Int) else (mag x : Int)
theorem cmp_ext {a b c d : Int} (h1 : a < b ↔ c < d) (h2 : a = b ↔ c = d) : compare a b = compare c d := by
  rcases Int.lt_trichotomy a b with h | h | h
  · rw [Int.compare_eq_lt.2 h, Int.compare_eq_lt.2 (h1.1 h)]
  · rw [Int.compare_eq_eq.2 h, Int.compare_eq_eq.2 (h2.1 h)]
  · rw [Int.compare_eq_gt.2 h, Int.compare_eq_gt.2 (by omega)]
theorem cmp_iff {a b c d : Int} (h : compare a b = compare c d) : (a < b ↔ c < d) ∧ (a = b ↔ c = d) :=
  ⟨by rw [← Int.compare_eq_lt, ← Int.compare_eq_lt, h], by rw [← Int.compare_eq_eq, ← Int.compare_eq_eq, h]⟩
theorem manF_zero {r : Nat} : manF r = 0 ↔ r = 0 := by
  unfold manF
  split <;> omega
theorem order_key {x y : Nat} (hx : mag x ≤ 9218868437227405312) (hy : mag y ≤ 9218868437227405312) : Ieee.double.order x y = some (compare (keyZ x) (keyZ y)) := by
  unfold Ieee.Format.order keyZ
  have bx := mag_lt x
  have by' := mag_lt y
  rcases Nat.lt_or_ge (mag x) 9218868437227405312 with h1 | h1
  · rcases Nat.lt_or_ge (mag y) 9218868437227405312 with h2 | h2
    · have hV := order_V h1 h2
      unfold Ieee.Format.order at hV
      rw [read_fin (by rw [mag_no h1]; exact h1), read_fin (by rw [mag_no h2]; exact h2), mag_no h1, mag_no h2] at hV
      rw [read_fin h1, read_fin h2]
      have s1 : (mag x / 9223372036854775808 % 2 == 1) = false := by rw [beq_eq_false_iff_ne]; omega
      have s2 : (mag y / 9223372036854775808 % 2 == 1) = false := by rw [beq_eq_false_iff_ne]; omega
      rw [s1, s2] at hV
      change some (compare (Ieee.signed false (manF (mag x)) (expF (mag x) - min (expF (mag x)) (expF (mag y))).toNat) (Ieee.signed false (manF (mag y)) (expF (mag y) - min (expF (mag x)) (expF (mag y))).toNat)) = _ at hV
      change some (compare (Ieee.signed _ (manF (mag x)) (expF (mag x) - min (expF (mag x)) (expF (mag y))).toNat) (Ieee.signed _ (manF (mag y)) (expF (mag y) - min (expF (mag x)) (expF (mag y))).toNat)) = _
      have hz1 := @manF_zero (mag x)
      have hz2 := @manF_zero (mag y)
      generalize (x / 9223372036854775808 % 2 == 1) = sx
      generalize (y / 9223372036854775808 % 2 == 1) = sy
      generalize (expF (mag x) - min (expF (mag x)) (expF (mag y))).toNat = k1 at *
      generalize (expF (mag y) - min (expF (mag x)) (expF (mag y))).toNat = k2 at *
      generalize manF (mag x) = m1 at *
      generalize manF (mag y) = m2 at *
      unfold Ieee.signed at hV ⊢
      have q1 : m1 <<< k1 = 0 ↔ m1 = 0 := by
        rw [Nat.shiftLeft_eq]
        constructor
        · intro h
          rcases Nat.mul_eq_zero.1 h with h | h
          · exact h
          · have := Nat.pow_pos (n := k1) (show 0 < 2 by omega); omega
        · rintro rfl; exact Nat.zero_mul _
      have q2 : m2 <<< k2 = 0 ↔ m2 = 0 := by
        rw [Nat.shiftLeft_eq]
        constructor
        · intro h
          rcases Nat.mul_eq_zero.1 h with h | h
          · exact h
          · have := Nat.pow_pos (n := k2) (show 0 < 2 by omega); omega
        · rintro rfl; exact Nat.zero_mul _
      generalize m1 <<< k1 = A at *
      generalize m2 <<< k2 = C at *
      obtain ⟨e1, e2⟩ := cmp_iff (Option.some.inj hV)
      simp only [Bool.false_eq_true, ↓reduceIte] at e1 e2
      congr 1
      have n1 : A = 0 ↔ mag x = 0 := q1.trans hz1
      have n2 : C = 0 ↔ mag y = 0 := q2.trans hz2
      clear q1 q2 hz1 hz2 hV
      cases sx <;> cases sy <;> simp only [Bool.false_eq_true, ↓reduceIte]
      all_goals refine cmp_ext ⟨fun h => ?_, fun h => ?_⟩ ⟨fun h => ?_, fun h => ?_⟩ <;> omega
    · rw [read_fin h1, read_inf (by omega)]
      show some (if (y / 9223372036854775808 % 2 == 1) then Ordering.gt else Ordering.lt) = _
      generalize (x / 9223372036854775808 % 2 == 1) = sx
      generalize (y / 9223372036854775808 % 2 == 1) = sy
      congr 1
      cases sx <;> cases sy <;> simp only [Bool.false_eq_true, ↓reduceIte]
      · exact (Int.compare_eq_lt.2 (by omega)).symm
      · exact (Int.compare_eq_gt.2 (by omega)).symm
      · exact (Int.compare_eq_lt.2 (by omega)).symm
      · exact (Int.compare_eq_gt.2 (by omega)).symm
  · rcases Nat.lt_or_ge (mag y) 9218868437227405312 with h2 | h2
    · rw [read_inf (by omega), read_fin h2]
      show some (if (x / 9223372036854775808 % 2 == 1) then Ordering.lt else Ordering.gt) = _
      generalize (x / 9223372036854775808 % 2 == 1) = sx
      generalize (y / 9223372036854775808 % 2 == 1) = sy
      congr 1
      cases sx <;> cases sy <;> simp only [Bool.false_eq_true, ↓reduceIte]
      · exact (Int.compare_eq_gt.2 (by omega)).symm
      · exact (Int.compare_eq_gt.2 (by omega)).symm
      · exact (Int.compare_eq_lt.2 (by omega)).symm
      · exact (Int.compare_eq_lt.2 (by omega)).symm
    · rw [read_inf (by omega), read_inf (by omega)]
      have e1 : mag x = 9218868437227405312 := by omega
      have e2 : mag y = 9218868437227405312 := by omega
      rw [e1, e2]
      generalize (x / 9223372036854775808 % 2 == 1) = sx
      generalize (y / 9223372036854775808 % 2 == 1) = sy
      cases sx <;> cases sy <;> rfl
theorem order_nan_l {x y : Nat} (h : 9218868437227405312 < mag x) : Ieee.double.order x y = none := by
  unfold Ieee.Format.order
  rw [read_nan h]
  rfl
theorem order_nan_r {x y : Nat} (h : 9218868437227405312 < mag y) : Ieee.double.order x y = none := by
  unfold Ieee.Format.order
  rw [read_nan h]
  cases Ieee.double.read x <;> rfl
end Go.Proofs.YtdliiohjbnlieaaGreatDoor

namespace Go.Proofs.YtdliiohjbnlieaaGreatDoor
open Go.RowKit Go.Lib

theorem f3 : fw 3 = 4613937818241073152 := by decide +kernel
theorem f1 : fw 1 = 4607182418800017408 := by decide +kernel
end Go.Proofs.YtdliiohjbnlieaaGreatDoor

namespace Go.Proofs.YtdliiohjbnlieaaGreatDoor
open Go.RowKit Go.Lib

/-- Numbers in order, NaN behind all others. -/
def rkB (x : Nat) : Int := if nanB x = true then 1 else 0
def ltB (x y : Nat) : Bool := FloatKind.f64.format.order x y == some .lt
def gtB (x y : Nat) : Bool := FloatKind.f64.format.order x y == some .gt
def cmpN (x y : Nat) : Int := if ltB x y = true then -1 else if gtB x y = true then 1 else rkB x - rkB y
end Go.Proofs.YtdliiohjbnlieaaGreatDoor

namespace Go.Proofs.YtdliiohjbnlieaaGreatDoor
open Go.RowKit Go.Lib

theorem cmp_facts : ∀ (l m : List UInt8), (Op.bytesLess l m = true ↔ Lib.compareBytes l m = -1) ∧ (Lib.compareBytes l m = 0 ↔ l = m) ∧ (Lib.compareBytes l m = -1 ∨ Lib.compareBytes l m = 0 ∨ Lib.compareBytes l m = 1)
  | [], [] => ⟨by decide, by decide, by decide⟩
  | [], _ :: _ => ⟨⟨fun _ => rfl, fun _ => rfl⟩, ⟨(fun h => by cases h), (fun h => by cases h)⟩, Or.inl rfl⟩
  | _ :: _, [] => ⟨⟨(fun h => by cases h), (fun h => by cases h)⟩, ⟨(fun h => by cases h), (fun h => by cases h)⟩, Or.inr (Or.inr rfl)⟩
  | a :: x, b :: y => by
    obtain ⟨i1, i2, i3⟩ := cmp_facts x y
    have e1 : Op.bytesLess (a :: x) (b :: y) = (decide (a < b) || (a == b && Op.bytesLess x y)) := rfl
    have e2 : Lib.compareBytes (a :: x) (b :: y) = if a < b then -1 else if b < a then 1 else Lib.compareBytes x y := rfl
    rw [e1, e2]
    by_cases h1 : a < b
    · have hne : a ≠ b := fun e => by rw [e] at h1; exact absurd h1 (UInt8.lt_irrefl b)
      rw [if_pos h1, decide_eq_true h1]
      exact ⟨⟨fun _ => rfl, fun _ => rfl⟩, ⟨(fun h => by cases h), (fun h => absurd (List.cons.inj h).1 hne)⟩, Or.inl rfl⟩
    · rw [if_neg h1, decide_eq_false h1, Bool.false_or]
      by_cases h2 : b < a
      · have hne : a ≠ b := fun e => by rw [e] at h2; exact absurd h2 (UInt8.lt_irrefl b)
        rw [if_pos h2, beq_eq_false_iff_ne.2 hne, Bool.false_and]
        exact ⟨⟨(fun h => by cases h), (fun h => by cases h)⟩, ⟨(fun h => by cases h), (fun h => absurd (List.cons.inj h).1 hne)⟩, Or.inr (Or.inr rfl)⟩
      · have he : a = b := UInt8.le_antisymm (UInt8.not_lt.1 h2) (UInt8.not_lt.1 h1)
        rw [if_neg h2, he, beq_self_eq_true, Bool.true_and]
        refine ⟨i1, i2.trans ⟨fun h => by rw [h], fun h => (List.cons.inj h).2⟩, i3⟩
end Go.Proofs.YtdliiohjbnlieaaGreatDoor

namespace Go.Proofs.YtdliiohjbnlieaaGreatDoor
open Go.RowKit Go.Lib

/-- A number's place among all: NaN stands behind all others. -/
def keyN (x : Nat) : Int := if 9218868437227405312 < mag x then 9223372036854775808 else keyZ x
theorem keyZ_bd (x : Nat) : -9223372036854775808 < keyZ x ∧ keyZ x < 9223372036854775808 := by
  have := mag_lt x
  unfold keyZ
  split <;> omega
theorem cmpN_key (x y : Nat) : cmpN x y = if keyN x < keyN y then -1 else if keyN y < keyN x then 1 else 0 := by
  have bx := keyZ_bd x
  have by' := keyZ_bd y
  unfold cmpN ltB gtB rkB keyN
  rcases Nat.lt_or_ge 9218868437227405312 (mag x) with hx | hx
  · rw [show FloatKind.f64.format.order x y = none from order_nan_l hx, nan_yes hx, if_pos hx]
    rw [if_neg (show ¬ ((none : Option Ordering) == some .lt) = true by decide), if_neg (show ¬ ((none : Option Ordering) == some .gt) = true by decide), if_pos rfl]
    rcases Nat.lt_or_ge 9218868437227405312 (mag y) with hy | hy
    · rw [nan_yes hy, if_pos hy, if_pos rfl, if_neg (by omega), if_neg (by omega)]
      rfl
    · rw [nan_no hy, if_neg (by omega : ¬ 9218868437227405312 < mag y), if_neg (by decide), if_neg (by omega), if_pos (by omega)]
      rfl
  · rw [if_neg (by omega : ¬ 9218868437227405312 < mag x), nan_no hx]
    rcases Nat.lt_or_ge 9218868437227405312 (mag y) with hy | hy
    · rw [show FloatKind.f64.format.order x y = none from order_nan_r hy, nan_yes hy, if_pos hy]
      rw [if_neg (show ¬ ((none : Option Ordering) == some .lt) = true by decide), if_neg (show ¬ ((none : Option Ordering) == some .gt) = true by decide), if_neg (by decide), if_pos rfl, if_pos (by omega)]
      rfl
    · rw [if_neg (by omega : ¬ 9218868437227405312 < mag y), nan_no hy, show FloatKind.f64.format.order x y = some (compare (keyZ x) (keyZ y)) from order_key hx hy]
      rcases Int.lt_trichotomy (keyZ x) (keyZ y) with h | h | h
      · rw [Int.compare_eq_lt.2 h, if_pos (by decide), if_pos h]
      · rw [Int.compare_eq_eq.2 h, if_neg (by decide), if_neg (by decide), if_neg (by decide), if_neg (by omega), if_neg (by omega)]
        rfl
      · rw [Int.compare_eq_gt.2 h, if_neg (by decide), if_pos (by decide), if_neg (by omega), if_pos h]
theorem cb_step (a b : UInt8) (l m : List UInt8) : (a.toNat < b.toNat → Lib.compareBytes (a :: l) (b :: m) = -1) ∧ (b.toNat < a.toNat → Lib.compareBytes (a :: l) (b :: m) = 1) ∧ (a.toNat = b.toNat → Lib.compareBytes (a :: l) (b :: m) = Lib.compareBytes l m) := by
  have e2 : Lib.compareBytes (a :: l) (b :: m) = if a < b then -1 else if b < a then 1 else Lib.compareBytes l m := rfl
  have l1 := UInt8.lt_iff_toNat_lt (a := a) (b := b)
  have l2 := UInt8.lt_iff_toNat_lt (a := b) (b := a)
  rw [e2]
  refine ⟨fun h => if_pos (l1.2 h), fun h => ?_, fun h => ?_⟩
  · rw [if_neg (fun k => by have := l1.1 k; omega), if_pos (l2.2 h)]
  · rw [if_neg (fun k => by have := l1.1 k; omega), if_neg (fun k => by have := l2.1 k; omega)]
theorem cb_swap : ∀ l m : List UInt8, Lib.compareBytes m l = -Lib.compareBytes l m
  | [], [] => rfl
  | [], _ :: _ => rfl
  | _ :: _, [] => rfl
  | a :: l, b :: m => by
    have h1 := cb_step a b l m
    have h2 := cb_step b a m l
    have h3 := cb_swap l m
    omega
theorem cb_trans : ∀ l m n : List UInt8, Lib.compareBytes l m ≤ 0 → Lib.compareBytes m n ≤ 0 → Lib.compareBytes l n ≤ 0 ∧ ((Lib.compareBytes l m = 0 ∧ Lib.compareBytes m n = 0) ↔ Lib.compareBytes l n = 0)
  | [], [], [] => fun _ _ => by decide
  | [], [], _ :: _ => fun _ _ => ⟨by show (-1 : Int) ≤ 0; decide, ⟨fun h => absurd h.2 (by show ¬ (-1 : Int) = 0; decide), fun h => absurd h (by show ¬ (-1 : Int) = 0; decide)⟩⟩
  | [], _ :: _, [] => fun _ h => absurd h (by show ¬ (1 : Int) ≤ 0; decide)
  | [], _ :: _, _ :: _ => fun _ _ => ⟨by show (-1 : Int) ≤ 0; decide, ⟨fun h => absurd h.1 (by show ¬ (-1 : Int) = 0; decide), fun h => absurd h (by show ¬ (-1 : Int) = 0; decide)⟩⟩
  | _ :: _, [], _ => fun h _ => absurd h (by show ¬ (1 : Int) ≤ 0; decide)
  | _ :: _, _ :: _, [] => fun _ h => absurd h (by show ¬ (1 : Int) ≤ 0; decide)
  | a :: l, b :: m, c :: n => by
    have h1 := cb_step a b l m
    have h2 := cb_step b c m n
    have h3 := cb_step a c l n
    have ih := cb_trans l m n
    intro k1 k2
    rcases Nat.lt_trichotomy a.toNat b.toNat with q1 | q1 | q1 <;> rcases Nat.lt_trichotomy b.toNat c.toNat with q2 | q2 | q2
    · have := h1.1 q1; have := h2.1 q2; have := h3.1 (by omega); omega
    · have := h1.1 q1; have := h3.1 (by omega); omega
    · have := h2.2.1 q2; omega
    · have := h2.1 q2; have := h3.1 (by omega); omega
    · rw [h1.2.2 q1] at k1 ⊢
      rw [h2.2.2 q2] at k2 ⊢
      rw [h3.2.2 (by omega)]
      exact ih k1 k2
    · have := h2.2.1 q2; omega
    · have := h1.2.1 q1; omega
    · have := h1.2.1 q1; omega
    · have := h1.2.1 q1; omega
end Go.Proofs.YtdliiohjbnlieaaGreatDoor

namespace Go.Proofs.YtdliiohjbnlieaaGreatDoor
open Go.RowKit Go.Lib

/-- A comparison that is one. -/
structure CmpW (cv : Nat → Nat → Int) : Prop where
  bd : ∀ a b, -10 ≤ cv a b ∧ cv a b ≤ 10
  sw : ∀ a b, cv b a = -cv a b
  tr : ∀ a b c, cv a b ≤ 0 → cv b c ≤ 0 → cv a c ≤ 0 ∧ (cv a c = 0 → cv a b = 0 ∧ cv b c = 0)
  eq : ∀ a b c, cv a b = 0 → cv b c = 0 → cv a c = 0
theorem CmpW.ord {cv : Nat → Nat → Int} {way : Int} (h : CmpW cv) (hw : way = 1 ∨ way = -1) : Ord (ltV cv way) :=
  ord_of hw (fun a b => by have := h.bd a b; omega) h.sw h.tr h.eq
theorem CmpW.zero : CmpW (fun _ _ => 0) := ⟨fun _ _ => by omega, fun _ _ => rfl, fun _ _ _ _ _ => ⟨Int.le_refl 0, fun _ => ⟨rfl, rfl⟩⟩, fun _ _ _ _ _ => rfl⟩
theorem CmpW.nums (k : Nat → Int) (hk : ∀ a, 0 ≤ k a ∧ k a ≤ 2) : CmpW (fun a b => k a - k b) :=
  ⟨fun a b => by have := hk a; have := hk b; omega, fun _ _ => by omega, fun _ _ _ _ _ => ⟨by omega, fun _ => by omega⟩, fun _ _ _ _ _ => by omega⟩
theorem CmpW.floats (k : Nat → Nat) : CmpW (fun a b => cmpN (k a) (k b)) := by
  refine ⟨fun a b => ?_, fun a b => ?_, fun a b c => ?_, fun a b c => ?_⟩
  all_goals
    simp only [cmpN_key]
  · split
    · omega
    · split <;> omega
  · rcases Int.lt_trichotomy (keyN (k a)) (keyN (k b)) with h | h | h
    · rw [if_neg (by omega), if_pos h, if_pos h]; rfl
    · rw [if_neg (by omega), if_neg (by omega), if_neg (by omega), if_neg (by omega)]; rfl
    · rw [if_pos h, if_neg (by omega), if_pos h]
  · generalize keyN (k a) = x
    generalize keyN (k b) = y
    generalize keyN (k c) = z
    intro h1 h2
    have q1 : x ≤ y := by
      rcases Int.lt_or_le y x with h | h
      · rw [if_neg (by omega), if_pos h] at h1; omega
      · exact h
    have q2 : y ≤ z := by
      rcases Int.lt_or_le z y with h | h
      · rw [if_neg (by omega), if_pos h] at h2; omega
      · exact h
    rcases Int.lt_or_le x z with h | h
    · rw [if_pos h]; exact ⟨by omega, fun e => by omega⟩
    · have e1 : x = y := by omega
      have e2 : y = z := by omega
      subst e1
      subst e2
      rw [if_neg (by omega), if_neg (by omega)]
      exact ⟨Int.le_refl 0, fun _ => ⟨rfl, rfl⟩⟩
  · generalize keyN (k a) = x
    generalize keyN (k b) = y
    generalize keyN (k c) = z
    intro h1 h2
    have q1 : x = y := by
      rcases Int.lt_trichotomy x y with h | h | h
      · rw [if_pos h] at h1; omega
      · exact h
      · rw [if_neg (by omega), if_pos h] at h1; omega
    have q2 : y = z := by
      rcases Int.lt_trichotomy y z with h | h | h
      · rw [if_pos h] at h2; omega
      · exact h
      · rw [if_neg (by omega), if_pos h] at h2; omega
    subst q1
    subst q2
    rw [if_neg (by omega), if_neg (by omega)]
theorem CmpW.bytes (k : Nat → List UInt8) : CmpW (fun a b => Lib.compareBytes (k a) (k b)) := by
  refine ⟨fun a b => ?_, fun a b => cb_swap _ _, fun a b c h1 h2 => ?_, fun a b c h1 h2 => ?_⟩
  · rcases (cmp_facts (k a) (k b)).2.2 with h | h | h <;> omega
  · have := cb_trans (k a) (k b) (k c) h1 h2
    exact ⟨this.1, this.2.2⟩
  · have := cb_trans (k a) (k b) (k c) (by omega) (by omega)
    exact this.2.1 ⟨h1, h2⟩
end Go.Proofs.YtdliiohjbnlieaaGreatDoor

namespace Go.Proofs.YtdliiohjbnlieaaGreatDoor
open Go.RowKit Go.Lib

theorem info_entry : (Tryz.prog.info? 62).map (fun i => (i.zero, i.size, i.bytes)) = some (some (.agg #[.string ⟨#[]⟩, .int .i64 0, .float .f64 0, .string ⟨#[]⟩, .bool false]), 5, 56) := by kernel_rfl
end Go.Proofs.YtdliiohjbnlieaaGreatDoor

namespace Go.Proofs.YtdliiohjbnlieaaGreatDoor
open Go.Lib

/-- The character at byte i of s: its code and how many bytes it has. -/
def chN (n b0 b1 b2 b3 : Nat) : Nat × Nat := if decodeN n b0 b1 b2 b3 = (65533, 1) then (1114112 + b0, 1) else decodeN n b0 b1 b2 b3
def chS (s : ByteArray) (i : Nat) : Nat × Nat := chN (s.size - i) (s.get! i).toNat (s.get! (i + 1)).toNat (s.get! (i + 2)).toNat (s.get! (i + 3)).toNat

/-- What Next answers. -/
def nextZ (s : ByteArray) (i : Int) (b : Bool) : Nat × Nat :=
  if i < 0 ∨ (s.size : Int) ≤ i then (0, 0) else if b then ((s.get! i.toNat).toNat, 1) else chS s i.toNat


theorem get!_lt (s : ByteArray) (i : Nat) (h : i < s.size) : s[i] = s.get! i := (Utf8W.get!_of_lt s i h).symm

theorem get!_lt256 (s : ByteArray) (i : Nat) : (s.get! i).toNat < 256 := by
  have := UInt8.toNat_lt (s.get! i)
  omega
/-! What 'size' reckons is what the library decodes. -/
end Go.Proofs.YtdliiohjbnlieaaGreatDoor

namespace Go.Proofs.YtdliiohjbnlieaaGreatDoor
open Go.Lib

/-- How many bytes the character at a place has (0 past the end). -/
def wid (s : ByteArray) (b : Bool) (i : Nat) : Nat := (nextZ s (i : Int) b).2
/-- The place of the k-th character (from 0 on), or the length. -/
def pl (s : ByteArray) (b : Bool) : Nat → Nat
  | 0 => 0
  | k + 1 => pl s b k + wid s b (pl s b k)

/-- How many characters. -/
def cnt (s : ByteArray) (b : Bool) : Nat := (List.range s.size).countP fun k => decide (pl s b k < s.size)
end Go.Proofs.YtdliiohjbnlieaaGreatDoor

namespace Go.Proofs.YtdliiohjbnlieaaGreatDoor
open Go.RowKit Go.Lib Go.Shelf
attribute [local go_sem] Oper.semAt_some

/-- A cell that is there lies in a block below the heap's size. -/
theorem lt_of_cell {W : World} {c o : Nat} {v : Value} (h : W.cell? ⟨c, o, none⟩ = some v) : c < W.heap.size := by
  by_cases hc : c < W.heap.size
  · exact hc
  · simp [World.cell?, Array.getElem?_eq_none (Nat.le_of_not_lt hc)] at h
end Go.Proofs.YtdliiohjbnlieaaGreatDoor

namespace Go.Proofs.YtdliiohjbnlieaaGreatDoor
open Go.RowKit Go.Lib Go.Shelf
attribute [local go_sem] Oper.semAt_some

theorem Boxed.below {W W' : World} {B n : Nat} {t : TypeId} {v : Value} (h : Boxed W B t v) (hb : Below n W W') (hn : B < n) : Boxed W' B t v := (hb.block B hn).trans h

end Go.Proofs.YtdliiohjbnlieaaGreatDoor

namespace Go.Proofs.YtdliiohjbnlieaaGreatDoor
open Go.RowKit Go.Lib

def d00 : Dat := ⟨⟨#[]⟩, 0, 0, ⟨#[]⟩, false⟩
end Go.Proofs.YtdliiohjbnlieaaGreatDoor

namespace Go.Proofs.YtdliiohjbnlieaaGreatDoor
open Go.RowKit Go.Lib

theorem order_none (A : Option Addr) (cap : Nat) (conv : ByteArray) (W : World) : Calls Tryz.prog 24 #[.slice A 0 cap, .string n0, .string conv] W fun e w' => ∃ A' cap', e = .returned (.tuple #[.slice A' 0 cap', .int .i64 0]) ∧ Below W.heap.size W w' := by
  refine (show Calls _ _ _ _ _ from order_yes (es := []) (rd := fun _ => d00) (by unfold ordT; simp) (by decide) (by decide) (fun j hj => absurd hj (Nat.not_lt_zero _)) (CmpW.zero.ord (Or.inl rfl)) en_leave en_alike (fun _ _ _ ha => absurd ha (Nat.not_lt_zero _)) (cmp_alike W _ _ _)).mono ?_
  rintro e w' ⟨v, o, rfl, hi, hO, hb⟩
  obtain ⟨A', cap', rfl, _⟩ := hO.slice
  refine ⟨A', cap', by rw [hi.len]; rfl, hb⟩
theorem info_str : (Tryz.prog.info? 9).map (fun i => (i.zero, i.size, i.bytes)) = some (some (.string ⟨#[]⟩), 1, 16) := by kernel_rfl
set_option maxRecDepth 100000 in
theorem nilKeys_any (conv : ByteArray) (W : World) (hE : ∀ w, Calls Tryz.prog 23 #[nilP] w fun e w' => ∃ A cap, e = .returned (.slice A 0 cap) ∧ Below w.heap.size w w') :
    Calls Tryz.prog 8 #[nilP, .string n0, .string conv] W fun e w' => ∃ A cap, e = .returned (.tuple #[.slice A 0 cap, .int .i64 0]) ∧ Below W.heap.size W w' := by
  have CE := Lib.hid hE
  obtain ⟨i0, hi, hz0, hz1, hz2⟩ := info_parts info_str
  have hmk : ∀ W : World, (Instr.makeSlice 33 (.int .i64 0) (.int .i64 0)).run Tryz.prog W = .ok (.slice (some ⟨W.heap.size, 0, none⟩) 0 0) (W.alloc (.cells (madeCells (Value.string ⟨#[]⟩).cells (0 * 1)) 9)) := fun W => by
    have := run_make (P := Tryz.prog) W 33 9 i0 (.string ⟨#[]⟩) Tryz.underlying33 hi hz0 .i64 .i64 ((0 : Nat) : Int) ((0 : Nat) : Int) (by omega) (by omega) (by rw [hz2]; omega) (by omega)
    rw [hz1, Int.toNat_natCast] at this
    exact this
  clear hE hi hz0 hz1 hz2
  go_enter Tryz.func8, Tryz.ntmps8
  go_wp2_with fail
  refine (CE.out _).mono ?_
  rintro e W1 ⟨A1, cap1, rfl, hb1⟩
  have HB1 := Lib.hid hb1
  have hs1 := hb1.size
  clear hb1 CE
  go_wp2_with fail
  refine (show Calls _ _ _ _ _ from order_none A1 cap1 conv W1).mono ?_
  rintro e W2 ⟨A2, cap2, rfl, hb2⟩
  have hb2 := HB1.out.trans (hb2.mono hs1)
  have HB2 := Lib.hid hb2
  have hs2 := hb2.size
  clear hb2 HB1
  go_wp2_with fail
  go_loopw [31] (fun v wr => v = .int .i64 0 ∧ Below W.heap.size W wr) (fun _ _ => 0)
  case atStart => exact ⟨rfl, HB2.out.alloc hs2 _⟩
  case round =>
    obtain ⟨rfl, hB⟩ := hrel
    have HB := Lib.hid hB
    clear hB hmk
    go_wp2_with fail
    go_ret2
    exact ⟨_, _, rfl, HB.out⟩
end Go.Proofs.YtdliiohjbnlieaaGreatDoor
