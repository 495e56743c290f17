/- Several texts in one (Plain arithmetic of layer 1: the character at a place of a string; Plain arithmetic of layer 1: the places at which the characters of a string begin; Plain: what a pattern reads as, the place of the first fault, the weight (layer 9); Plain: ranges put in order and made one where they touch: whatever order ranges with one beginning have, the answer is one; Blocks of cells: what lies in them, and what is kept; A pattern's tree in memory; Plain: beginnings of what is left, and the places that a pattern's parts end at; Plain: the rounds of rows and choices, and the places that they end at; Contracts of layer 1: the character at a place of a string, in the program (Next) and in the definition (size, Next); Contracts of layer 1: Next, in the program and in the definition; Contracts of layer 9: the parser's smallest steps: ended, stands, take, next, wrong, big; Contracts of layer 9: ranges in a row: sorted by where they begin). -/
import Derived.Lib.DecodeN
import Derived.Shelf.Unicode.DecodeSlow
import Derived.Lib.RuneCount
import Derived.Lib.IndexMore
import Derived.WalkSmall
import Derived.WalkKit
import Derived.WalkSpells
import Derived.WalkLawsBesides
import Derived.ProofKit
import Derived.Below
import Derived.Lib.Hide
import Derived.Laws.OwnMore
import Derived.Lib.SmallJoins
import Derived.Maps.OwnSet
import Derived.Maps.RangeWalk
import Derived.Test.YtmfcofiihopbfaaDoorProg
import Derived.Lib.Strings
import Derived.Lib.IndexBytes
import Derived.Test.YtmfcofiihopbfaaDoorRows
import Derived.Test.YtmfcofiihopbfaaDoorShelf
import Derived.Lib.RuneCountTail
import Derived.BigRegion
import Derived.BigQuiet
import Derived.Deep.QuietTactic
import Derived.Deep.RegionHeld3
import Derived.Deep.RegionLaw
import Derived.Maps.AppendAt
import Derived.Shelf.Strings.Prefix
import Derived.Shelf.SlSortCmp.WholeK
namespace Go.Proofs.YtmfcofiihopbfaaDoor
open Go.Lib

/-- The character at byte i of s: its code and how many bytes it has. -/
def chN (n b0 b1 b2 b3 : Nat) : Nat × Nat := if decodeN n b0 b1 b2 b3 = (65533, 1) then (1114112 + b0, 1) else decodeN n b0 b1 b2 b3
def chS (s : ByteArray) (i : Nat) : Nat × Nat := chN (s.size - i) (s.get! i).toNat (s.get! (i + 1)).toNat (s.get! (i + 2)).toNat (s.get! (i + 3)).toNat

/-- What Next answers. -/
def nextZ (s : ByteArray) (i : Int) (b : Bool) : Nat × Nat :=
  if i < 0 ∨ (s.size : Int) ≤ i then (0, 0) else if b then ((s.get! i.toNat).toNat, 1) else chS s i.toNat


theorem get!_lt (s : ByteArray) (i : Nat) (h : i < s.size) : s[i] = s.get! i := (Utf8W.get!_of_lt s i h).symm

theorem get!_lt256 (s : ByteArray) (i : Nat) : (s.get! i).toNat < 256 := by
  have := UInt8.toNat_lt (s.get! i)
  omega
/-! What 'size' reckons is what the library decodes. -/
/-- The model's decoding, a class of first bytes at a time. -/
theorem dec_two (n b0 b1 b2 b3 : Nat) (hn : 2 ≤ n) (c1 : b1 / 64 = 2) (hb : 194 ≤ b0 ∧ b0 ≤ 223) : decodeN n b0 b1 b2 b3 = (b0 % 32 * 64 + b1 % 64, 2) := by
  unfold decodeN
  rw [if_neg (show ¬ b0 < 128 by omega), if_pos (show b0 / 32 = 6 ∧ 1 < n ∧ b1 / 64 = 2 from ⟨by omega, by omega, c1⟩), if_pos (show b0 % 32 * 64 + b1 % 64 ≥ 128 by omega)]
theorem dec_three (n b0 b1 b2 b3 r : Nat) (hn : 3 ≤ n) (c1 : b1 / 64 = 2) (c2 : b2 / 64 = 2) (hb : 224 ≤ b0 ∧ b0 ≤ 239) (hr : r = b0 % 16 * 4096 + b1 % 64 * 64 + b2 % 64) :
    decodeN n b0 b1 b2 b3 = if r < 2048 ∨ 1114111 < r ∨ (55296 ≤ r ∧ r ≤ 57343) then (65533, 1) else (r, 3) := by
  unfold decodeN
  rw [if_neg (show ¬ b0 < 128 by omega), if_neg (show ¬ (b0 / 32 = 6 ∧ 1 < n ∧ b1 / 64 = 2) by omega), if_pos (show b0 / 16 = 14 ∧ (1 < n ∧ b1 / 64 = 2) ∧ (2 < n ∧ b2 / 64 = 2) from ⟨by omega, ⟨by omega, c1⟩, by omega, c2⟩), ← hr]
  by_cases c : r < 2048 ∨ 1114111 < r ∨ (55296 ≤ r ∧ r ≤ 57343)
  · rw [if_pos c, if_neg (by omega)]
  · rw [if_neg c, if_pos (by omega)]
theorem dec_four (n b0 b1 b2 b3 r : Nat) (hn : 4 ≤ n) (c1 : b1 / 64 = 2) (c2 : b2 / 64 = 2) (c3 : b3 / 64 = 2) (hb : 240 ≤ b0 ∧ b0 ≤ 244) (hr : r = b0 % 8 * 262144 + b1 % 64 * 4096 + b2 % 64 * 64 + b3 % 64) :
    decodeN n b0 b1 b2 b3 = if r < 65536 ∨ 1114111 < r ∨ (55296 ≤ r ∧ r ≤ 57343) then (65533, 1) else (r, 4) := by
  unfold decodeN
  rw [if_neg (show ¬ b0 < 128 by omega), if_neg (show ¬ (b0 / 32 = 6 ∧ 1 < n ∧ b1 / 64 = 2) by omega), if_neg (show ¬ (b0 / 16 = 14 ∧ (1 < n ∧ b1 / 64 = 2) ∧ (2 < n ∧ b2 / 64 = 2)) by omega),
    if_pos (show b0 / 8 = 30 ∧ (1 < n ∧ b1 / 64 = 2) ∧ (2 < n ∧ b2 / 64 = 2) ∧ (3 < n ∧ b3 / 64 = 2) from ⟨by omega, ⟨by omega, c1⟩, ⟨by omega, c2⟩, by omega, c3⟩), ← hr]
  by_cases c : r < 65536 ∨ 1114111 < r ∨ (55296 ≤ r ∧ r ≤ 57343)
  · rw [if_pos c, if_neg (by omega)]
  · rw [if_neg c, if_pos (by omega)]
theorem dec_none (n b0 b1 b2 b3 : Nat) (h : (128 ≤ b0 ∧ b0 ≤ 193) ∨ (245 ≤ b0 ∧ b0 < 256) ∨ (194 ≤ b0 ∧ b0 ≤ 223 ∧ ¬ (2 ≤ n ∧ b1 / 64 = 2)) ∨ (224 ≤ b0 ∧ b0 ≤ 239 ∧ ¬ (3 ≤ n ∧ b1 / 64 = 2 ∧ b2 / 64 = 2)) ∨ (240 ≤ b0 ∧ b0 ≤ 244 ∧ ¬ (4 ≤ n ∧ b1 / 64 = 2 ∧ b2 / 64 = 2 ∧ b3 / 64 = 2))) : decodeN n b0 b1 b2 b3 = (65533, 1) := by
  unfold decodeN
  rw [if_neg (show ¬ b0 < 128 by omega)]
  repeat' split
  all_goals first | rfl | (exfalso; omega)
theorem dec_one (n b0 b1 b2 b3 : Nat) (h : b0 < 128) : decodeN n b0 b1 b2 b3 = (b0, 1) := by
  unfold decodeN
  rw [if_pos h]
end Go.Proofs.YtmfcofiihopbfaaDoor

namespace Go.Proofs.YtmfcofiihopbfaaDoor
open Go.Lib

/-- How many bytes the character at a place has (0 past the end). -/
def wid (s : ByteArray) (b : Bool) (i : Nat) : Nat := (nextZ s (i : Int) b).2
theorem decodeN_wid (n b0 b1 b2 b3 : Nat) (hn : 1 ≤ n) : 1 ≤ (decodeN n b0 b1 b2 b3).2 ∧ (decodeN n b0 b1 b2 b3).2 ≤ n := by
  unfold decodeN
  repeat' split
  all_goals (simp only; omega)
theorem chN_wid (n b0 b1 b2 b3 : Nat) : (chN n b0 b1 b2 b3).2 = (decodeN n b0 b1 b2 b3).2 := by
  unfold chN
  split
  · rename_i h; rw [h]
  · rfl
theorem wid_byte (s : ByteArray) (i : Nat) (h : i < s.size) : wid s true i = 1 := by
  unfold wid nextZ; rw [if_neg (by omega)]; rfl
theorem wid_char (s : ByteArray) (i : Nat) (h : i < s.size) : wid s false i = (decodeN (s.size - i) (s.get! i).toNat (s.get! (i + 1)).toNat (s.get! (i + 2)).toNat (s.get! (i + 3)).toNat).2 := by
  unfold wid nextZ; rw [if_neg (by omega)]; exact chN_wid _ _ _ _ _
theorem wid_in (s : ByteArray) (b : Bool) (i : Nat) (h : i < s.size) : 1 ≤ wid s b i ∧ i + wid s b i ≤ s.size := by
  cases b
  · rw [wid_char s i h]
    have := decodeN_wid (s.size - i) (s.get! i).toNat (s.get! (i + 1)).toNat (s.get! (i + 2)).toNat (s.get! (i + 3)).toNat (by omega)
    omega
  · rw [wid_byte s i h]; omega
end Go.Proofs.YtmfcofiihopbfaaDoor

namespace Go.Proofs.YtmfcofiihopbfaaDoor

/-- A node: kind, code, neg, set, least, most, kids. -/
inductive Tr where
  | mk (kind code : Int) (neg : Bool) (set : List (Int × Int)) (lo hi : Int) (kids : List Tr)
/-- What a part of the parser answers: something and where it stands now, or a fault. -/
inductive Rs (α : Type) where
  | ok (a : α) (k : Nat)
  | bad (k : Nat) (e : Int)

def trZ : Tr := .mk 0 0 false [] 0 0 []
def trK (kind : Int) : Tr := .mk kind 0 false [] 0 0 []
def trC (c : Nat) : Tr := .mk 2 c false [] 0 0 []
def trS (neg : Bool) (set : List (Int × Int)) : Tr := .mk 4 0 neg set 0 0 []
def trN (kind : Int) (kids : List Tr) : Tr := .mk kind 0 false [] 0 0 kids
def trR (lo hi : Int) (t : Tr) : Tr := .mk 7 0 false [] lo hi [t]

/-- Does this byte stand there? -/
def st1 (s : ByteArray) (i c : Nat) : Bool := decide (i < s.size ∧ (s.get! i).toNat = c)
def st2 (s : ByteArray) (i c d : Nat) : Bool := decide (i + 1 < s.size ∧ (s.get! i).toNat = c ∧ (s.get! (i + 1)).toNat = d)
def rxDg (s : ByteArray) (i : Nat) : Bool := decide (i < s.size ∧ 48 ≤ (s.get! i).toNat ∧ (s.get! i).toNat ≤ 57)

def numF (s : ByteArray) : Nat → Nat → Nat → Nat × Nat
  | 0, i, n => (n, i)
  | f + 1, i, n => if rxDg s i then numF s f (i + 1) (min (n * 10 + ((s.get! i).toNat - 48)) 31) else (n, i)
def numR (s : ByteArray) (i n : Nat) : Nat × Nat := numF s (s.size - i) i n

/-- The numbers of an interval, and where it ends. -/
def bndF (s : ByteArray) (i : Nat) : Option (Int × Int × Nat) :=
  if st1 s i 123 then
    if (numR s (i + 1) 0).2 = i + 1 then none
    else if st1 s (numR s (i + 1) 0).2 44 then
      if st1 s (numR s ((numR s (i + 1) 0).2 + 1) 0).2 125 then
        some ((numR s (i + 1) 0).1, if (numR s ((numR s (i + 1) 0).2 + 1) 0).2 = (numR s (i + 1) 0).2 + 1 then -1 else (numR s ((numR s (i + 1) 0).2 + 1) 0).1, (numR s ((numR s (i + 1) 0).2 + 1) 0).2 + 1)
      else none
    else if st1 s (numR s (i + 1) 0).2 125 then some ((numR s (i + 1) 0).1, (numR s (i + 1) 0).1, (numR s (i + 1) 0).2 + 1)
    else none
  else none
/-- May something be repeated so often? -/
def repsF (lo hi : Int) : Bool := decide (0 ≤ lo ∧ lo ≤ 30 ∧ (hi = -1 ∨ (lo ≤ hi ∧ hi ≤ 30)))
def ivlF (s : ByteArray) (i : Nat) : Option (Rs (Int × Int)) :=
  match bndF s i with
  | none => none
  | some (lo, hi, k) => some (if 30 < lo ∨ 30 < hi then .bad i 91 else if repsF lo hi then .ok (lo, hi) k else .bad i 90)
/-- The repeat that stands there. -/
def repF (s : ByteArray) (i : Nat) : Option (Rs (Int × Int)) :=
  if st1 s i 42 then some (.ok (0, -1) (i + 1)) else if st1 s i 43 then some (.ok (1, -1) (i + 1)) else if st1 s i 63 then some (.ok (0, 1) (i + 1)) else ivlF s i

def alnF (c : Nat) : Bool := decide ((48 ≤ c ∧ c ≤ 57) ∨ (65 ≤ c ∧ c ≤ 90) ∨ (97 ≤ c ∧ c ≤ 122))
def meantF (c : Nat) : Option Nat :=
  if c = 110 then some 10 else if c = 116 then some 9 else if c = 114 then some 13 else if c = 102 then some 12 else if c = 118 then some 11 else if c = 97 then some 7 else if c = 98 then some 8
  else if alnF c then none else some c

def clsL (l : List UInt8) : Option (List (Int × Int)) :=
  if l = [97, 108, 112, 104, 97] then some [(65, 90), (97, 122)]
  else if l = [100, 105, 103, 105, 116] then some [(48, 57)]
  else if l = [97, 108, 110, 117, 109] then some [(48, 57), (65, 90), (97, 122)]
  else if l = [117, 112, 112, 101, 114] then some [(65, 90)]
  else if l = [108, 111, 119, 101, 114] then some [(97, 122)]
  else if l = [115, 112, 97, 99, 101] then some [(9, 13), (32, 32)]
  else if l = [98, 108, 97, 110, 107] then some [(9, 9), (32, 32)]
  else if l = [112, 117, 110, 99, 116] then some [(33, 47), (58, 64), (91, 96), (123, 126)]
  else if l = [112, 114, 105, 110, 116] then some [(32, 126)]
  else if l = [103, 114, 97, 112, 104] then some [(33, 126)]
  else if l = [99, 110, 116, 114, 108] then some [(0, 31), (127, 127)]
  else if l = [120, 100, 105, 103, 105, 116] then some [(48, 57), (65, 70), (97, 102)]
  else none
/-- A class, at whose '[:' the place i is; a is where its set begins. -/
def clsF (s : ByteArray) (a i : Nat) : Rs (List (Int × Int)) :=
  if (Go.Lib.cut (s.data.toList.drop (i + 2)) [58, 93]).2.2 then
    match clsL (Go.Lib.cut (s.data.toList.drop (i + 2)) [58, 93]).1 with
    | none => .bad a 90
    | some l => .ok l (i + 2 + (Go.Lib.cut (s.data.toList.drop (i + 2)) [58, 93]).1.length + 2)
  else .bad a 90
def memF (s : ByteArray) (b : Bool) (a i : Nat) : Rs Nat :=
  if i = s.size then .bad a 90
  else if (nextZ s i b).1 = 92 then
    if i + (nextZ s i b).2 = s.size then .bad a 90
    else match meantF (nextZ s ((i + (nextZ s i b).2 : Nat) : Int) b).1 with
      | none => .bad a 90
      | some c => .ok c (i + (nextZ s i b).2 + (nextZ s ((i + (nextZ s i b).2 : Nat) : Int) b).2)
  else .ok (nextZ s i b).1 (i + (nextZ s i b).2)
def itmF (s : ByteArray) (b : Bool) (a i : Nat) : Rs (List (Int × Int)) :=
  if st2 s i 91 58 then clsF s a i
  else match memF s b a i with
    | .bad k e => .bad k e
    | .ok lo k =>
      if !st2 s k 45 93 && st1 s k 45 then
        if st2 s (k + 1) 91 58 then .bad a 90
        else match memF s b a (k + 1) with
          | .bad k e => .bad k e
          | .ok hi k2 => if hi < lo then .bad a 90 else .ok [((lo : Int), (hi : Int))] k2
      else .ok [((lo : Int), (lo : Int))] k
def setF (s : ByteArray) (b : Bool) (a : Nat) : Nat → Bool → Nat → List (Int × Int) → Rs (List (Int × Int))
  | 0, _, _, _ => .bad a 90
  | f + 1, first, i, acc =>
    if !first && st1 s i 93 then .ok acc (i + 1)
    else match itmF s b a i with
      | .bad k e => .bad k e
      | .ok l k => setF s b a f false k (acc ++ l)

/-- Rising ranges of the same codes. -/
def insR (r : Int × Int) : List (Int × Int) → List (Int × Int)
  | [] => [r]
  | x :: l => if x.1 ≤ r.1 then x :: insR r l else r :: x :: l
def srtR : List (Int × Int) → List (Int × Int) → List (Int × Int)
  | acc, [] => acc
  | acc, r :: l => srtR (insR r acc) l
def mrgR : (Int × Int) → List (Int × Int) → List (Int × Int)
  | c, [] => [c]
  | c, r :: l => if r.1 ≤ c.2 + 1 then mrgR (c.1, max c.2 r.2) l else c :: mrgR r l
def jnH : List (Int × Int) → List (Int × Int)
  | [] => []
  | c :: l => mrgR c l
def joinR (l : List (Int × Int)) : List (Int × Int) := jnH (srtR [] l)
def wordR : List (Int × Int) := [(48, 57), (65, 90), (95, 95), (97, 122)]
def spaceR : List (Int × Int) := [(9, 13), (32, 32)]

def mrkF (s : ByteArray) (b : Bool) (a i : Nat) : Rs Tr :=
  if i = s.size then .bad a 90
  else
    if (nextZ s i b).1 = 121 then .ok (trK 10) (i + (nextZ s i b).2)
    else if (nextZ s i b).1 = 66 then .ok (trK 11) (i + (nextZ s i b).2)
    else if (nextZ s i b).1 = 60 then .ok (trK 12) (i + (nextZ s i b).2)
    else if (nextZ s i b).1 = 62 then .ok (trK 13) (i + (nextZ s i b).2)
    else if (nextZ s i b).1 = 96 then .ok (trK 8) (i + (nextZ s i b).2)
    else if (nextZ s i b).1 = 39 then .ok (trK 9) (i + (nextZ s i b).2)
    else if (nextZ s i b).1 = 119 then .ok (trS false wordR) (i + (nextZ s i b).2)
    else if (nextZ s i b).1 = 87 then .ok (trS true wordR) (i + (nextZ s i b).2)
    else if (nextZ s i b).1 = 115 then .ok (trS false spaceR) (i + (nextZ s i b).2)
    else if (nextZ s i b).1 = 83 then .ok (trS true spaceR) (i + (nextZ s i b).2)
    else match meantF (nextZ s i b).1 with
      | none => .bad a 90
      | some c => .ok (trC c) (i + (nextZ s i b).2)
def brkF (s : ByteArray) (b : Bool) (a i : Nat) : Rs Tr :=
  match setF s b a (s.size + 1) true (if st1 s i 94 then i + 1 else i) [] with
  | .bad k e => .bad k e
  | .ok l k => .ok (trS (st1 s i 94) (joinR l)) k
/-- The node at i; 'grp' reads a group whose bracket stands at the first place, and whose inner begins at the second. -/
def nodeF (grp : Nat → Nat → Rs Tr) (s : ByteArray) (b : Bool) (i : Nat) : Rs Tr :=
  if (nextZ s i b).1 = 40 then grp i (i + (nextZ s i b).2)
  else if (nextZ s i b).1 = 91 then brkF s b i (i + (nextZ s i b).2)
  else if (nextZ s i b).1 = 92 then mrkF s b i (i + (nextZ s i b).2)
  else if (nextZ s i b).1 = 46 then .ok (trK 3) (i + (nextZ s i b).2)
  else if (nextZ s i b).1 = 94 then .ok (trK 8) (i + (nextZ s i b).2)
  else if (nextZ s i b).1 = 36 then .ok (trK 9) (i + (nextZ s i b).2)
  else .ok (trC (nextZ s i b).1) (i + (nextZ s i b).2)
def togF (kind : Int) : List Tr → Tr
  | [] => trK 1
  | [t] => t
  | l => trN kind l
def rowF (grp : Nat → Nat → Rs Tr) (s : ByteArray) (b : Bool) : Nat → Nat → List Tr → Rs Tr
  | 0, i, _ => .bad i 90
  | f + 1, i, kids =>
    if i = s.size ∨ st1 s i 124 = true ∨ st1 s i 41 = true then .ok (togF 5 kids) i
    else match kids.getLast?, repF s i with
      | some _, some (.bad k e) => .bad k e
      | some t, some (.ok r k) => rowF grp s b f k (kids.dropLast ++ [trR r.1 r.2 t])
      | _, _ => match nodeF grp s b i with
        | .bad k e => .bad k e
        | .ok t k => rowF grp s b f k (kids ++ [t])
def chF (grp : Nat → Nat → Rs Tr) (s : ByteArray) (b : Bool) : Nat → Nat → List Tr → Rs Tr
  | 0, i, _ => .bad i 90
  | f + 1, i, kids =>
    match rowF grp s b (s.size + 1) i [] with
    | .bad k e => .bad k e
    | .ok t k => if st1 s k 124 then chF grp s b f (k + 1) (kids ++ [t]) else .ok (togF 6 (kids ++ [t])) k
/-- A group, where d more may be open. -/
def grpF (s : ByteArray) (b : Bool) : Nat → Nat → Nat → Rs Tr
  | 0, a, _ => .bad a 91
  | d + 1, a, i =>
    match chF (grpF s b d) s b (s.size + 1) i [] with
    | .bad k e => .bad k e
    | .ok t k => if st1 s k 41 then .ok t (k + 1) else .bad a 90
/-- The choice at i, where d more groups may be open. -/
def chD (s : ByteArray) (b : Bool) (d i : Nat) : Rs Tr := chF (grpF s b d) s b (s.size + 1) i []

mutual
def Tr.wt : Tr → Int
  | .mk kind _ _ _ lo hi kids =>
    if kind = 5 then Tr.wts 0 kids
    else if kind = 7 then min (Tr.wts 0 kids * min (if hi < 0 then min (max 0 lo) 1048576 + 1 else hi) 1048576 + 1) 1048576
    else min (Tr.wts 0 kids + 1) 1048576
def Tr.wts : Int → List Tr → Int
  | a, [] => a
  | a, t :: l => Tr.wts (min (a + Tr.wt t) 1048576) l
end

/-- What Parse answers: a tree, a place, an error. -/
def rxParse (s : ByteArray) (b : Bool) : Tr × Nat × Int :=
  if 1024 < s.size then (trZ, 0, 3)
  else match chD s b 40 0 with
    | .bad k e => (trZ, k, e)
    | .ok t k => if k = s.size then if 200 < t.wt then (trZ, 0, 91) else (t, 0, 0) else (trZ, k, 90)
end Go.Proofs.YtmfcofiihopbfaaDoor

namespace Go.Proofs.YtmfcofiihopbfaaDoor

def cov (l : List (Int × Int)) (x : Int) : Prop := ∃ r ∈ l, r.1 ≤ x ∧ x ≤ r.2
def RxLow (l : List (Int × Int)) : Prop := l.Pairwise fun r q => r.1 ≤ q.1
def Fit (l : List (Int × Int)) : Prop := ∀ r ∈ l, r.1 ≤ r.2
def Rise (l : List (Int × Int)) : Prop := Fit l ∧ l.Pairwise fun r q => r.2 + 1 < q.1

theorem cov_cons {r : Int × Int} {l : List (Int × Int)} {x : Int} : cov (r :: l) x ↔ (r.1 ≤ x ∧ x ≤ r.2) ∨ cov l x := by
  unfold cov
  simp
theorem rise_unique : ∀ {l m : List (Int × Int)}, Rise l → Rise m → (∀ x, cov l x ↔ cov m x) → l = m
  | [], [], _, _, _ => rfl
  | [], r :: m, _, hm, h => by
    have := (h r.1).2 ⟨r, by simp, Int.le_refl _, hm.1 r (by simp)⟩
    obtain ⟨q, hq, _⟩ := this
    simp at hq
  | r :: l, [], hl, _, h => by
    have := (h r.1).1 ⟨r, by simp, Int.le_refl _, hl.1 r (by simp)⟩
    obtain ⟨q, hq, _⟩ := this
    simp at hq
  | r :: l, q :: m, hl, hm, h => by
    obtain ⟨hl1, hl2⟩ := hl
    obtain ⟨hm1, hm2⟩ := hm
    rw [List.pairwise_cons] at hl2 hm2
    have r0 := hl1 r (by simp)
    have q0 := hm1 q (by simp)
    have up : ∀ {a : Int × Int} {k : List (Int × Int)} {x : Int}, (∀ b ∈ k, a.2 + 1 < b.1) → cov k x → a.2 + 1 < x := by
      rintro a k x hk ⟨b, hb, h1, _⟩
      have := hk b hb
      omega
    have e1 : r.1 = q.1 := by
      rcases cov_cons.1 ((h r.1).1 (cov_cons.2 (.inl ⟨Int.le_refl _, r0⟩))) with a | a
      · rcases cov_cons.1 ((h q.1).2 (cov_cons.2 (.inl ⟨Int.le_refl _, q0⟩))) with b | b
        · omega
        · have := up hl2.1 b
          omega
      · have a1 := up hm2.1 a
        rcases cov_cons.1 ((h q.1).2 (cov_cons.2 (.inl ⟨Int.le_refl _, q0⟩))) with b | b
        · omega
        · have := up hl2.1 b
          omega
    have e2 : r.2 = q.2 := by
      rcases Int.lt_trichotomy r.2 q.2 with c | c | c
      · rcases cov_cons.1 ((h (r.2 + 1)).2 (cov_cons.2 (.inl ⟨by omega, by omega⟩))) with b | b
        · omega
        · have := up hl2.1 b
          omega
      · exact c
      · rcases cov_cons.1 ((h (q.2 + 1)).1 (cov_cons.2 (.inl ⟨by omega, by omega⟩))) with b | b
        · omega
        · have := up hm2.1 b
          omega
    obtain rfl : r = q := Prod.ext e1 e2
    rw [rise_unique (l := l) (m := m) ⟨fun x hx => hl1 x (by simp [hx]), hl2.2⟩ ⟨fun x hx => hm1 x (by simp [hx]), hm2.2⟩ fun x => ⟨fun a => by
      have a1 := up hl2.1 a
      rcases cov_cons.1 ((h x).1 (cov_cons.2 (.inr a))) with b | b
      · omega
      · exact b, fun a => by
      have a1 := up hm2.1 a
      rcases cov_cons.1 ((h x).2 (cov_cons.2 (.inr a))) with b | b
      · omega
      · exact b⟩]
theorem mrg_head : ∀ (l : List (Int × Int)) (c : Int × Int), ∃ z k, mrgR c l = (c.1, z) :: k
  | [], c => ⟨c.2, [], rfl⟩
  | r :: l, c => by
    unfold mrgR
    split
    · exact mrg_head l _
    · exact ⟨c.2, _, rfl⟩
theorem mrg_spec : ∀ (l : List (Int × Int)) (c : Int × Int), RxLow (c :: l) → Fit (c :: l) → Rise (mrgR c l) ∧ ∀ x, cov (mrgR c l) x ↔ cov (c :: l) x
  | [], c, _, hf => ⟨⟨hf, by simp [mrgR]⟩, fun x => Iff.rfl⟩
  | r :: l, c, hl, hf => by
    unfold RxLow at hl
    rw [List.pairwise_cons, List.pairwise_cons] at hl
    have c0 := hf c (by simp)
    have r0 := hf r (by simp)
    have cr := hl.1 r (by simp)
    unfold mrgR
    split
    case isTrue ht =>
      obtain ⟨h1, h2⟩ := mrg_spec l (c.1, max c.2 r.2) (by
        unfold RxLow
        rw [List.pairwise_cons]
        exact ⟨fun q hq => hl.1 q (by simp [hq]), hl.2.2⟩) (fun q hq => by
        rcases List.mem_cons.1 hq with rfl | hq
        · simp only
          omega
        · exact hf q (by simp [hq]))
      refine ⟨h1, fun x => ?_⟩
      rw [h2, cov_cons, cov_cons, cov_cons]
      simp only
      by_cases hx : cov l x
      · simp [hx]
      · simp only [hx, or_false]
        omega
    case isFalse ht =>
      obtain ⟨h1, h2⟩ := mrg_spec l r (by unfold RxLow; rw [List.pairwise_cons]; exact hl.2) (fun q hq => hf q (List.mem_cons_of_mem _ hq))
      refine ⟨⟨fun q hq => ?_, ?_⟩, fun x => ?_⟩
      · rcases List.mem_cons.1 hq with rfl | hq
        · exact c0
        · exact h1.1 q hq
      · rw [List.pairwise_cons]
        refine ⟨fun q hq => ?_, h1.2⟩
        obtain ⟨z, k, e⟩ := mrg_head l r
        rw [e] at hq h1
        have h3 := h1.2
        have h4 := h1.1 (r.1, z) (by simp)
        rw [List.pairwise_cons] at h3
        rcases List.mem_cons.1 hq with rfl | hq
        · simp only
          omega
        · have := h3.1 q hq
          simp only at this h4
          omega
      · rw [cov_cons, cov_cons, h2]
theorem ins_perm (r : Int × Int) : ∀ (l : List (Int × Int)), (insR r l).Perm (r :: l)
  | [] => List.Perm.refl _
  | x :: l => by
    unfold insR
    split
    · exact ((ins_perm r l).cons x).trans (List.Perm.swap r x l)
    · exact List.Perm.refl _
theorem ins_low (r : Int × Int) : ∀ (l : List (Int × Int)), RxLow l → RxLow (insR r l)
  | [], _ => by simp [insR, RxLow]
  | x :: l, h => by
    unfold RxLow at h
    rw [List.pairwise_cons] at h
    unfold insR
    split
    case isTrue c =>
      unfold RxLow
      rw [List.pairwise_cons]
      refine ⟨fun q hq => ?_, ins_low r l h.2⟩
      rcases List.mem_cons.1 ((ins_perm r l).mem_iff.1 hq) with rfl | hq
      · exact c
      · exact h.1 q hq
    case isFalse c =>
      unfold RxLow
      rw [List.pairwise_cons, List.pairwise_cons]
      refine ⟨fun q hq => ?_, h⟩
      rcases List.mem_cons.1 hq with rfl | hq
      · omega
      · have := h.1 q hq
        omega
theorem srt_perm : ∀ (l acc : List (Int × Int)), (srtR acc l).Perm (acc ++ l)
  | [], acc => by simp [srtR]
  | r :: l, acc => by
    unfold srtR
    refine (srt_perm l _).trans ?_
    refine ((ins_perm r acc).append_right l).trans ?_
    exact (List.perm_middle (l₁ := acc) (a := r) (l₂ := l)).symm
theorem srt_low : ∀ (l acc : List (Int × Int)), RxLow acc → RxLow (srtR acc l)
  | [], _, h => h
  | r :: l, acc, h => by
    unfold srtR
    exact srt_low l _ (ins_low r acc h)
theorem cov_perm {l m : List (Int × Int)} (h : l.Perm m) (x : Int) : cov l x ↔ cov m x := by
  unfold cov
  simp only [h.mem_iff]
theorem jnH_spec {l : List (Int × Int)} (h : RxLow l) (hf : Fit l) : Rise (jnH l) ∧ ∀ x, cov (jnH l) x ↔ cov l x := by
  cases l with
  | nil => exact ⟨⟨fun r hr => by simp [jnH] at hr, by simp [jnH]⟩, fun x => Iff.rfl⟩
  | cons c l => exact mrg_spec l c h hf
/-- However the ranges are put in order, they are joined to the same. -/
theorem join_any {l d : List (Int × Int)} (hp : d.Perm l) (hd : RxLow d) (hf : Fit l) : jnH d = joinR l := by
  have hfd : Fit d := fun r hr => hf r (hp.mem_iff.1 hr)
  have p2 : (srtR [] l).Perm l := srt_perm l []
  obtain ⟨a1, a2⟩ := jnH_spec hd hfd
  obtain ⟨b1, b2⟩ := jnH_spec (srt_low l [] List.Pairwise.nil) (fun r hr => hf r (p2.mem_iff.1 hr))
  exact rise_unique a1 b1 fun x => (a2 x).trans ((cov_perm (hp.trans p2.symm) x).trans (b2 x).symm)
/-- A round of the loop. -/
def stepJ (all : List (Int × Int)) (r : Int × Int) : List (Int × Int) :=
  match all.getLast? with
  | none => all ++ [r]
  | some c => if r.1 ≤ c.2 + 1 then all.dropLast ++ [(c.1, max c.2 r.2)] else all ++ [r]
theorem fold_mrg : ∀ (l pre : List (Int × Int)) (c : Int × Int), l.foldl stepJ (pre ++ [c]) = pre ++ mrgR c l
  | [], _, _ => rfl
  | r :: l, pre, c => by
    rw [List.foldl_cons, stepJ]
    simp only [List.getLast?_concat, List.dropLast_concat]
    unfold mrgR
    split
    · exact fold_mrg l pre _
    · rw [show pre ++ [c] ++ [r] = (pre ++ [c]) ++ [r] by simp, fold_mrg l (pre ++ [c]) r]
      simp
theorem fold_jn (l : List (Int × Int)) : l.foldl stepJ [] = jnH l := by
  cases l with
  | nil => rfl
  | cons c l => exact fold_mrg l [] c
theorem step_len (all : List (Int × Int)) (r : Int × Int) : (stepJ all r).length ≤ all.length + 1 := by
  unfold stepJ
  split
  · simp
  · split
    · simp only [List.length_append, List.length_dropLast, List.length_cons, List.length_nil]
      omega
    · simp
theorem fold_len : ∀ (l acc : List (Int × Int)), (l.foldl stepJ acc).length ≤ acc.length + l.length
  | [], _ => by simp
  | r :: l, acc => by
    rw [List.foldl_cons]
    have := fold_len l (stepJ acc r)
    have := step_len acc r
    simp only [List.length_cons]
    omega
end Go.Proofs.YtmfcofiihopbfaaDoor

namespace Go.Proofs.YtmfcofiihopbfaaDoor
open Go.RowKit Go.Lib

/-- Block g is this row of cells. -/
structure Blk (W : World) (g : Nat) (cs : Array Value) (t : TypeId) : Prop where
  row : W.heap[g]? = some (.cells cs t (0, 0))
theorem Blk.lt {W : World} {g : Nat} {cs : Array Value} {t : TypeId} (h : Blk W g cs t) : g < W.heap.size := (Array.getElem?_eq_some_iff.1 h.row).1
theorem Blk.cell {W : World} {g : Nat} {cs : Array Value} {t : TypeId} (h : Blk W g cs t) (j : Nat) : W.cell? ⟨g, j, none⟩ = cs[j]? := cell_of_row W _ j _ _ _ h.row
theorem Blk.fro {W : World} {g : Nat} {cs : Array Value} {t : TypeId} (h : Blk W g cs t) (j : Nat) : W.frozen? ⟨g, j, none⟩ = false := frozen_of_row W _ j _ _ h.row
theorem Blk.below {W W' : World} {g B : Nat} {cs : Array Value} {t : TypeId} (h : Blk W g cs t) (hb : Below B W W') (hg : g < B) : Blk W' g cs t := ⟨(hb.block g hg).trans h.row⟩
theorem Blk.new (w : World) (cs : Array Value) (t : TypeId) : Blk (w.alloc (.cells cs t)) w.heap.size cs t := ⟨heap_alloc_new w _⟩
theorem Blk.alloc {W : World} {g : Nat} {cs : Array Value} {t : TypeId} (h : Blk W g cs t) (o : Obj) : Blk (W.alloc o) g cs t := ⟨(Below.heap_alloc W o g h.lt).trans h.row⟩
theorem Blk.set {W : World} {g j : Nat} {cs : Array Value} {t : TypeId} {u : Value} (h : Blk W g cs t) : Blk (W.setCell ⟨g, j, none⟩ u) g (cs.setIfInBounds j u) t := ⟨heap_setCell_same W g j cs t u h.row⟩
theorem Blk.other {W : World} {g g' j : Nat} {cs : Array Value} {t : TypeId} {u : Value} (h : Blk W g cs t) (hne : g ≠ g') : Blk (W.setCell ⟨g', j, none⟩ u) g cs t := by
  refine ⟨?_⟩
  rw [Below.heap_setCell W ⟨g', j, none⟩ u g hne]
  exact h.row
theorem Blk.grown {W W' : World} {g : Nat} {cs : Array Value} {t : TypeId} {r : Option Nat} (h : Blk W g cs t) (hg : W.grownBy W' r) (hne : some g ≠ r) : Blk W' g cs t := ⟨(hg.block g h.lt hne).trans h.row⟩
/-- Of what was there nothing has turned but blocks a and m. -/
structure Off2 (a m : Nat) (w w' : World) : Prop where
  os : w'.os = w.os
  tape : w'.tape = w.tape
  output : w'.output = w.output
  size : w.heap.size ≤ w'.heap.size
  block : ∀ i, i < w.heap.size → i ≠ a → i ≠ m → w'.heap[i]? = w.heap[i]?
theorem Off2.of_below {a m : Nat} {w w' : World} (h : Below w.heap.size w w') : Off2 a m w w' := ⟨h.os, h.tape, h.output, h.size, fun i hi _ _ => h.block i hi⟩
theorem Off2.trans {a m : Nat} {w w1 w2 : World} (h : Off2 a m w w1) (k : Off2 a m w1 w2) : Off2 a m w w2 := ⟨k.os.trans h.os, k.tape.trans h.tape, k.output.trans h.output, Nat.le_trans h.size k.size, fun i hi h1 h2 => (k.block i (Nat.lt_of_lt_of_le hi h.size) h1 h2).trans (h.block i hi h1 h2)⟩
theorem Off2.turned {a m : Nat} {w w' : World} (ht : w.mapTurned w' m) : Off2 a m w w' := by
  have g := ht.grown
  exact ⟨g.os, g.tape, g.output, g.size, fun i hi _ h2 => g.block i hi (by simp; omega)⟩
theorem Off2.setCell (w : World) (a m j : Nat) (u : Value) : Off2 a m w (w.setCell ⟨a, j, none⟩ u) := by
  have b := (Below.refl 0 w).setCell (p := ⟨a, j, none⟩) (Nat.zero_le _) u
  exact ⟨b.os, b.tape, b.output, b.size, fun i _ h1 _ => Below.heap_setCell w ⟨a, j, none⟩ u i h1⟩
theorem Off2.below {a m B : Nat} {w w' : World} (h : Off2 a m w w') (h1 : B ≤ a) (h2 : B ≤ m) (h3 : B ≤ w.heap.size) : Below B w w' := ⟨h.os, h.tape, h.output, h.size, fun i hi => h.block i (by omega) (by omega) (by omega)⟩
theorem Blk.off2 {a m : Nat} {W W' : World} {g : Nat} {cs : Array Value} {t : TypeId} (h : Blk W g cs t) (o : Off2 a m W W') (h1 : g ≠ a) (h2 : g ≠ m) : Blk W' g cs t := ⟨(o.block g h.lt h1 h2).trans h.row⟩
end Go.Proofs.YtmfcofiihopbfaaDoor

namespace Go.Proofs.YtmfcofiihopbfaaDoor
open Go.RowKit Go.Lib

/-- Ranges in memory, in blocks of which P holds. -/
def RgIn (w : World) (P : Nat → Prop) (set : List (Int × Int)) (v : Value) : Prop :=
  ∃ A cap, v = .slice A set.length cap ∧ set.length ≤ 100000 ∧ ∀ j r, set[j]? = some r → ∃ g, A = some ⟨g, 0, none⟩ ∧ P g ∧ w.cell? ⟨g, j * 2, none⟩ = some (.int .i64 r.1) ∧ w.cell? ⟨g, j * 2 + 1, none⟩ = some (.int .i64 r.2)
mutual
/-- The seven values that 'rd' tells are this tree's, with all below it in memory, in blocks of which P holds. -/
def Tr.In (w : World) (P : Nat → Prop) : Tr → (Nat → Option Value) → Prop
  | .mk kind code neg set lo hi kids, rd =>
    ∃ sv A cap, rd 0 = some (.int .i64 kind) ∧ rd 1 = some (.int .i64 code) ∧ rd 2 = some (.bool neg) ∧ rd 3 = some sv ∧ rd 4 = some (.int .i64 lo) ∧ rd 5 = some (.int .i64 hi) ∧ rd 6 = some (.slice A kids.length cap) ∧
      kids.length ≤ 100000 ∧ RgIn w P set sv ∧ Tr.Ins w P kids A 0
def Tr.Ins (w : World) (P : Nat → Prop) : List Tr → Option Addr → Nat → Prop
  | [], _, _ => True
  | t :: l, A, o => (∃ g, A = some ⟨g, 0, none⟩ ∧ P g ∧ Tr.In w P t (fun i => w.cell? ⟨g, o + i, none⟩)) ∧ Tr.Ins w P l A (o + 7)
end

theorem RgIn.kept {w w' : World} {P P' : Nat → Prop} {set : List (Int × Int)} {v : Value} (h : RgIn w P set v) (hk : ∀ g, g < w.heap.size → P g → P' g ∧ w'.heap[g]? = w.heap[g]?) : RgIn w' P' set v := by
  obtain ⟨A, cap, rfl, hn, h⟩ := h
  refine ⟨A, cap, rfl, hn, fun j r hj => ?_⟩
  obtain ⟨g, rfl, hp, h0, h1⟩ := h j r hj
  obtain ⟨hp', hg⟩ := hk g (World.block_lt_of_cell? w _ h0) hp
  exact ⟨g, rfl, hp', (World.cell?_of_block (a := ⟨g, j * 2, none⟩) hg).trans h0, (World.cell?_of_block (a := ⟨g, j * 2 + 1, none⟩) hg).trans h1⟩
theorem Tr.In.zero {w : World} {P : Nat → Prop} {t : Tr} {rd : Nat → Option Value} (h : t.In w P rd) : ∃ v, rd 0 = some v := by
  cases t
  rw [Tr.In] at h
  obtain ⟨sv, A, cap, h0, _⟩ := h
  exact ⟨_, h0⟩
mutual
theorem Tr.In.keep {w w' : World} {P P' : Nat → Prop} (hk : ∀ g, g < w.heap.size → P g → P' g ∧ w'.heap[g]? = w.heap[g]?) : ∀ (t : Tr) (rd rd' : Nat → Option Value), (∀ i, i < 7 → rd' i = rd i) → t.In w P rd → t.In w' P' rd'
  | .mk kind code neg set lo hi kids, rd, rd', hr, h => by
    rw [Tr.In] at h ⊢
    obtain ⟨sv, A, cap, h0, h1, h2, h3, h4, h5, h6, hn, hs, hi⟩ := h
    exact ⟨sv, A, cap, (hr 0 (by omega)).trans h0, (hr 1 (by omega)).trans h1, (hr 2 (by omega)).trans h2, (hr 3 (by omega)).trans h3, (hr 4 (by omega)).trans h4, (hr 5 (by omega)).trans h5, (hr 6 (by omega)).trans h6, hn, hs.kept hk, Tr.Ins.keep hk kids A 0 hi⟩
theorem Tr.Ins.keep {w w' : World} {P P' : Nat → Prop} (hk : ∀ g, g < w.heap.size → P g → P' g ∧ w'.heap[g]? = w.heap[g]?) : ∀ (l : List Tr) (A : Option Addr) (o : Nat), Tr.Ins w P l A o → Tr.Ins w' P' l A o
  | [], _, _, _ => by rw [Tr.Ins]; trivial
  | t :: l, A, o, h => by
    rw [Tr.Ins] at h ⊢
    obtain ⟨⟨g, rfl, hp, ht⟩, hl⟩ := h
    obtain ⟨v, hv⟩ := ht.zero
    obtain ⟨hp', hg⟩ := hk g (World.block_lt_of_cell? w _ hv) hp
    exact ⟨⟨g, rfl, hp', Tr.In.keep hk t _ _ (fun i _ => World.cell?_of_block (a := ⟨g, o + i, none⟩) hg) ht⟩, Tr.Ins.keep hk l _ _ hl⟩
end
theorem Tr.In.kept {w w' : World} {P P' : Nat → Prop} {t : Tr} {rd : Nat → Option Value} (h : t.In w P rd) (hk : ∀ g, g < w.heap.size → P g → P' g ∧ w'.heap[g]? = w.heap[g]?) : t.In w' P' rd := Tr.In.keep hk t rd rd (fun _ _ => rfl) h
theorem Tr.In.congr {w : World} {P : Nat → Prop} {t : Tr} {rd rd' : Nat → Option Value} (h : t.In w P rd) (hr : ∀ i, i < 7 → rd' i = rd i) : t.In w P rd' := Tr.In.keep (fun _ _ hp => ⟨hp, rfl⟩) t rd rd' hr h
theorem Tr.Ins.at {w : World} {P : Nat → Prop} : ∀ {l : List Tr} {A : Option Addr} {o : Nat}, Tr.Ins w P l A o → ∀ (j : Nat) (t : Tr), l[j]? = some t → ∃ g, A = some ⟨g, 0, none⟩ ∧ P g ∧ t.In w P (fun i => w.cell? ⟨g, o + j * 7 + i, none⟩)
  | [], _, _, _, j, t, hj => by simp at hj
  | u :: l, A, o, h, j, t, hj => by
    rw [Tr.Ins] at h
    obtain ⟨h0, h1⟩ := h
    cases j with
    | zero =>
      obtain rfl : u = t := by simpa using hj
      simpa using h0
    | succ j =>
      obtain ⟨g, hA, hp, ht⟩ := Tr.Ins.at h1 j t (by simpa using hj)
      refine ⟨g, hA, hp, ?_⟩
      rw [show o + (j + 1) * 7 = o + 7 + j * 7 by omega]
      exact ht
theorem Tr.Ins.of {w : World} {P : Nat → Prop} : ∀ {l : List Tr} {A : Option Addr} {o : Nat}, (∀ (j : Nat) (t : Tr), l[j]? = some t → ∃ g, A = some ⟨g, 0, none⟩ ∧ P g ∧ t.In w P (fun i => w.cell? ⟨g, o + j * 7 + i, none⟩)) → Tr.Ins w P l A o
  | [], _, _, _ => by rw [Tr.Ins]; trivial
  | u :: l, A, o, h => by
    rw [Tr.Ins]
    refine ⟨by simpa using h 0 u rfl, Tr.Ins.of fun j t hj => ?_⟩
    obtain ⟨g, hA, hp, ht⟩ := h (j + 1) t (by simpa using hj)
    refine ⟨g, hA, hp, ?_⟩
    rw [show o + 7 + j * 7 = o + (j + 1) * 7 by omega]
    exact ht
/-- The values of a list, by places. -/
def rdL (xs : List Value) (o : Nat) : Nat → Option Value := fun i => xs[o + i]?
/-- A tree as seven values. -/
def TrV (w : World) (P : Nat → Prop) (t : Tr) (vs : Array Value) : Prop := vs.size = 7 ∧ t.In w P (fun i => vs[i]?)
theorem TrV.kept {w w' : World} {P P' : Nat → Prop} {t : Tr} {vs : Array Value} (h : TrV w P t vs) (hk : ∀ g, g < w.heap.size → P g → P' g ∧ w'.heap[g]? = w.heap[g]?) : TrV w' P' t vs := ⟨h.1, h.2.kept hk⟩
theorem TrV.open {w : World} {P : Nat → Prop} {kind code : Int} {neg : Bool} {set : List (Int × Int)} {lo hi : Int} {kids : List Tr} {vs : Array Value} (h : TrV w P (.mk kind code neg set lo hi kids) vs) :
    ∃ sv A cap, vs = #[.int .i64 kind, .int .i64 code, .bool neg, sv, .int .i64 lo, .int .i64 hi, .slice A kids.length cap] ∧ kids.length ≤ 100000 ∧ RgIn w P set sv ∧ Tr.Ins w P kids A 0 := by
  obtain ⟨hz, h⟩ := h
  rw [Tr.In] at h
  obtain ⟨sv, A, cap, h0, h1, h2, h3, h4, h5, h6, hn, hs, hi⟩ := h
  refine ⟨sv, A, cap, ?_, hn, hs, hi⟩
  refine Array.ext_getElem? fun i => ?_
  by_cases hi7 : i < 7
  · have : i = 0 ∨ i = 1 ∨ i = 2 ∨ i = 3 ∨ i = 4 ∨ i = 5 ∨ i = 6 := by omega
    rcases this with rfl | rfl | rfl | rfl | rfl | rfl | rfl
    · exact h0
    · exact h1
    · exact h2
    · exact h3
    · exact h4
    · exact h5
    · exact h6
  · rw [Array.getElem?_eq_none (by omega), Array.getElem?_eq_none (by simp; omega)]
theorem TrV.mk {w : World} {P : Nat → Prop} {kind code : Int} {neg : Bool} {set : List (Int × Int)} {lo hi : Int} {kids : List Tr} {sv : Value} {A : Option Addr} {cap : Nat} (hn : kids.length ≤ 100000) (hs : RgIn w P set sv) (hi' : Tr.Ins w P kids A 0) :
    TrV w P (.mk kind code neg set lo hi kids) #[.int .i64 kind, .int .i64 code, .bool neg, sv, .int .i64 lo, .int .i64 hi, .slice A kids.length cap] := by
  refine ⟨rfl, ?_⟩
  rw [Tr.In]
  exact ⟨sv, A, cap, rfl, rfl, rfl, rfl, rfl, rfl, rfl, hn, hs, hi'⟩
theorem RgIn.nil (w : World) (P : Nat → Prop) (A : Option Addr) (cap : Nat) : RgIn w P [] (.slice A 0 cap) := ⟨A, cap, rfl, by simp, fun j r h => by simp at h⟩
theorem Tr.Ins.nil (w : World) (P : Nat → Prop) (A : Option Addr) (o : Nat) : Tr.Ins w P [] A o := by rw [Tr.Ins]; trivial
/-- A node without kids and set. -/
theorem TrV.leaf (w : World) (P : Nat → Prop) (kind code : Int) (neg : Bool) (lo hi : Int) : TrV w P (.mk kind code neg [] lo hi []) #[.int .i64 kind, .int .i64 code, .bool neg, .slice none 0 0, .int .i64 lo, .int .i64 hi, .slice none 0 0] :=
  TrV.mk (by simp) (RgIn.nil w P none 0) (Tr.Ins.nil w P none 0)

/-- The nodes that have been read so far: a row of its own, whose trees lie aside of it. -/
def Kds (w : World) (n : Nat) (v : Value) (ts : List Tr) : Prop :=
  ∃ xs, w.ownsRow n 30 7 v ts.length xs ∧ ∀ (j : Nat) (t : Tr), ts[j]? = some t → t.In w (fun g => n ≤ g ∧ some g ≠ v.ownBlock) (rdL xs (j * 7))
theorem Kds.nil (w : World) (n : Nat) : Kds w n (.slice none 0 0) [] := ⟨[], World.ownsRow_nil _ _ _ _, fun j t h => by simp at h⟩
theorem Kds.slice {w : World} {n : Nat} {v : Value} {ts : List Tr} (h : Kds w n v ts) : ∃ A cap, v = .slice A ts.length cap := by
  obtain ⟨xs, ⟨_, h⟩, _⟩ := h
  rcases h with ⟨rfl, h0⟩ | ⟨g, cap, cur, rfl, _⟩
  · exact ⟨none, 0, by rw [h0]⟩
  · exact ⟨_, _, rfl⟩
theorem Kds.ins {w : World} {n : Nat} {A : Option Addr} {cap : Nat} {ts : List Tr} (h : Kds w n (.slice A ts.length cap) ts) : Tr.Ins w (fun g => n ≤ g) ts A 0 := by
  obtain ⟨xs, ho, hx⟩ := h
  refine Tr.Ins.of fun j t hj => ?_
  have hjl : j < ts.length := (List.getElem?_eq_some_iff.1 hj).1
  have hlen := ho.1
  rcases ho.2 with ⟨e, h0⟩ | ⟨g, cap', cur, e, hg, _⟩
  · omega
  · injection e with e1 e2 e3
    subst e1
    refine ⟨g, rfl, hg, ?_⟩
    refine ((hx j t hj).kept (fun g _ hp => ⟨hp.1, rfl⟩)).congr fun i hi => ?_
    have hb : j * 7 + i < xs.length := by omega
    rw [rdL, List.getElem?_eq_getElem hb]
    have := ho.cells rfl (j * 7 + i) _ (List.getElem?_eq_getElem hb)
    rw [Addr.add_lit] at this
    simpa using this
theorem Kds.kept {w w' : World} {n : Nat} {v : Value} {ts : List Tr} (h : Kds w n v ts) (hk : ∀ g, g < w.heap.size → n ≤ g → w'.heap[g]? = w.heap[g]?) : Kds w' n v ts := by
  obtain ⟨xs, ho, hx⟩ := h
  refine ⟨xs, ⟨ho.1, ?_⟩, fun j t hj => (hx j t hj).kept (fun g hg hp => ⟨hp, hk g hg hp.1⟩)⟩
  rcases ho.2 with h0 | ⟨g, cap, cur, e, hg, hr, hz⟩
  · exact .inl h0
  · exact .inr ⟨g, cap, cur, e, hg, (hk g (Array.getElem?_eq_some_iff.1 hr).1 hg).trans hr, hz⟩
end Go.Proofs.YtmfcofiihopbfaaDoor

namespace Go.Proofs.YtmfcofiihopbfaaDoor
open Go.Lib

theorem rx_get (s : ByteArray) (i : Nat) (h : i < s.size) : s.data.toList[i]? = some (s.get! i) := by
  obtain ⟨l⟩ := s
  have h' : i < l.size := h
  show l.toList[i]? = some l[i]!
  rw [Array.getElem?_toList, getElem!_pos l i h', Array.getElem?_eq_getElem h']
theorem rx_drop (s : ByteArray) (i : Nat) (h : i < s.size) : s.data.toList.drop i = s.get! i :: s.data.toList.drop (i + 1) := by
  have h' : i < s.data.toList.length := by simpa using h
  rw [List.drop_eq_getElem_cons h']
  have := rx_get s i h
  rw [List.getElem?_eq_getElem h'] at this
  rw [Option.some.inj this]
theorem rx_drop0 (s : ByteArray) (i : Nat) (h : s.size ≤ i) : s.data.toList.drop i = [] := List.drop_eq_nil_of_le (by simpa using h)
theorem toNat_beq (a b : UInt8) : (a == b) = decide (b.toNat = a.toNat) := by
  rw [Bool.eq_iff_iff, beq_iff_eq, decide_eq_true_eq]
  exact ⟨fun h => by rw [h], fun h => UInt8.toNat_inj.1 h.symm⟩
theorem pre1 (s : ByteArray) (i : Nat) (c : UInt8) : hasPrefix (s.data.toList.drop i) [c] = st1 s i c.toNat := by
  unfold hasPrefix st1
  by_cases h : i < s.size
  · rw [rx_drop s i h, List.isPrefixOf, List.isPrefixOf, Bool.and_true, toNat_beq]
    simp [h]
  · rw [rx_drop0 s i (by omega)]
    simp [h]
theorem pre2 (s : ByteArray) (i : Nat) (c d : UInt8) : hasPrefix (s.data.toList.drop i) [c, d] = st2 s i c.toNat d.toNat := by
  unfold hasPrefix st2
  by_cases h : i + 1 < s.size
  · rw [rx_drop s i (by omega), rx_drop s (i + 1) h, List.isPrefixOf, List.isPrefixOf, List.isPrefixOf, Bool.and_true, toNat_beq, toNat_beq]
    simp [h]
  · by_cases h2 : i < s.size
    · rw [rx_drop s i h2, rx_drop0 s (i + 1) (by omega), List.isPrefixOf]
      simp [h]
    · rw [rx_drop0 s i (by omega)]
      simp [h]
theorem st1_lt {s : ByteArray} {i c : Nat} (h : st1 s i c = true) : i < s.size := (of_decide_eq_true h).1
theorem st2_lt {s : ByteArray} {i c d : Nat} (h : st2 s i c d = true) : i + 1 < s.size := (of_decide_eq_true h).1
theorem st1_end (s : ByteArray) (c : Nat) : st1 s s.size c = false := by simp [st1]
theorem nx_in (s : ByteArray) (b : Bool) (i : Nat) (h : i < s.size) : 1 ≤ (nextZ s i b).2 ∧ i + (nextZ s i b).2 ≤ s.size := wid_in s b i h
/-- The number's loop. -/
theorem numR_step (s : ByteArray) (i n : Nat) (h : rxDg s i = true) : numR s i n = numR s (i + 1) (min (n * 10 + ((s.get! i).toNat - 48)) 31) := by
  have h1 : i < s.size := (of_decide_eq_true h).1
  unfold numR
  obtain ⟨f, hf⟩ : ∃ f, s.size - i = f + 1 := ⟨s.size - i - 1, by omega⟩
  rw [hf, numF, if_pos h, show s.size - (i + 1) = f by omega]
theorem numR_stop (s : ByteArray) (i n : Nat) (h : rxDg s i = false) : numR s i n = (n, i) := by
  unfold numR
  cases hf : s.size - i with
  | zero => rfl
  | succ f => rw [numF, if_neg (by simp [h])]
theorem numF_in (s : ByteArray) : ∀ (f i n : Nat), i ≤ s.size → n ≤ 31 → i ≤ (numF s f i n).2 ∧ (numF s f i n).2 ≤ s.size ∧ (numF s f i n).1 ≤ 31
  | 0, i, n, h, hn => ⟨Nat.le_refl _, h, hn⟩
  | f + 1, i, n, h, hn => by
    unfold numF
    split
    case isTrue hd =>
      have h1 : i < s.size := (of_decide_eq_true hd).1
      have := numF_in s f (i + 1) (min (n * 10 + ((s.get! i).toNat - 48)) 31) (by omega) (by omega)
      exact ⟨by omega, this.2⟩
    case isFalse => exact ⟨Nat.le_refl _, h, hn⟩
theorem numR_in (s : ByteArray) (i : Nat) (h : i ≤ s.size) : i ≤ (numR s i 0).2 ∧ (numR s i 0).2 ≤ s.size ∧ (numR s i 0).1 ≤ 31 := numF_in s _ i 0 h (by omega)
theorem bnd_in {s : ByteArray} {i k : Nat} {lo hi : Int} (h : bndF s i = some (lo, hi, k)) : i < k ∧ k ≤ s.size ∧ 0 ≤ lo ∧ lo ≤ 31 ∧ -1 ≤ hi ∧ hi ≤ 31 := by
  unfold bndF at h
  split at h
  case isFalse => cases h
  case isTrue h0 =>
    have h1 := st1_lt h0
    have a := numR_in s (i + 1) (by omega)
    generalize numR s (i + 1) 0 = r at h a
    split at h
    · cases h
    split at h
    · rename_i h3
      have h3 := st1_lt h3
      have c := numR_in s (r.2 + 1) (by omega)
      generalize numR s (r.2 + 1) 0 = q at h c
      split at h
      · rename_i h4
        have h4 := st1_lt h4
        simp only [Option.some.injEq, Prod.mk.injEq] at h
        obtain ⟨e1, e2, e3⟩ := h
        split at e2 <;> omega
      · cases h
    · split at h
      · rename_i h4
        have h4 := st1_lt h4
        simp only [Option.some.injEq, Prod.mk.injEq] at h
        omega
      · cases h
theorem ivl_in {s : ByteArray} {i k : Nat} {r : Int × Int} (h : ivlF s i = some (.ok r k)) : i < k ∧ k ≤ s.size := by
  unfold ivlF at h
  split at h
  · cases h
  · rename_i lo hi k' hb
    have := bnd_in hb
    split at h
    · cases h
    · split at h
      · cases h
        exact ⟨this.1, this.2.1⟩
      · cases h
theorem rep_in {s : ByteArray} {i k : Nat} {r : Int × Int} (h : repF s i = some (.ok r k)) : i < k ∧ k ≤ s.size := by
  unfold repF at h
  split at h
  · rename_i h0; have := st1_lt h0; cases h; omega
  · split at h
    · rename_i h0; have := st1_lt h0; cases h; omega
    · split at h
      · rename_i h0; have := st1_lt h0; cases h; omega
      · exact ivl_in h
theorem mem_in {s : ByteArray} {b : Bool} {a i k c : Nat} (hi : i ≤ s.size) (h : memF s b a i = .ok c k) : i < k ∧ k ≤ s.size := by
  unfold memF at h
  split at h
  · cases h
  rename_i h0
  have h1 := nx_in s b i (by omega)
  split at h
  · split at h
    · cases h
    rename_i h2
    have h3 := nx_in s b (i + (nextZ s i b).2) (by omega)
    split at h
    · cases h
    · cases h
      omega
  · cases h
    omega
theorem cls_in {s : ByteArray} {a i k : Nat} {l : List (Int × Int)} (h : clsF s a i = .ok l k) : i < k ∧ k ≤ s.size := by
  unfold clsF at h
  split at h
  case isFalse => cases h
  case isTrue hc =>
    split at h
    · cases h
    cases h
    refine ⟨by omega, ?_⟩
    unfold cut at hc ⊢
    split
    case isFalse hx =>
      rw [if_neg hx] at hc
      cases hc
    case isTrue hx =>
      obtain ⟨p, hp, ho⟩ : ∃ p : Nat, index (s.data.toList.drop (i + 2)) [58, 93] = p ∧ occAt (s.data.toList.drop (i + 2)) [58, 93] p = true := by
        rcases index_spec (s.data.toList.drop (i + 2)) [58, 93] with ⟨e, _⟩ | ⟨p, e, _, ho, _⟩
        · omega
        · exact ⟨p, e, ho⟩
      rw [hp]
      unfold occAt at ho
      have hl := (List.isPrefixOf_iff_prefix.1 ho).length_le
      simp only [List.length_cons, List.length_nil, List.length_drop, Int.toNat_natCast, List.length_take, Lib.size_eq] at hl ⊢
      omega
theorem itm_in {s : ByteArray} {b : Bool} {a i k : Nat} {l : List (Int × Int)} (hi : i ≤ s.size) (h : itmF s b a i = .ok l k) : i < k ∧ k ≤ s.size := by
  unfold itmF at h
  split at h
  · exact cls_in h
  split at h
  · cases h
  rename_i lo k0 hm
  have h0 := mem_in hi hm
  split at h
  · split at h
    · cases h
    split at h
    · cases h
    rename_i hc _ _ hi2 k2 hm2
    have hc2 : st1 s k0 45 = true := by
      rw [Bool.and_eq_true] at hc
      exact hc.2
    have h3 := st1_lt hc2
    have h4 := mem_in (by omega) hm2
    split at h
    · cases h
    · cases h
      omega
  · cases h
    exact h0
theorem set_in {s : ByteArray} {b : Bool} {a : Nat} : ∀ {f : Nat} {first : Bool} {i k : Nat} {acc l : List (Int × Int)}, i ≤ s.size → setF s b a f first i acc = .ok l k → i < k ∧ k ≤ s.size
  | 0, _, _, _, _, _, _, h => by unfold setF at h; cases h
  | f + 1, first, i, k, acc, l, hi, h => by
    unfold setF at h
    split at h
    · rename_i hc
      rw [Bool.and_eq_true] at hc
      have := st1_lt hc.2
      cases h
      omega
    · split at h
      · cases h
      · rename_i l2 k2 hm
        have h1 := itm_in hi hm
        have h2 := set_in h1.2 h
        omega
end Go.Proofs.YtmfcofiihopbfaaDoor

namespace Go.Proofs.YtmfcofiihopbfaaDoor
open Go.Lib

theorem ite_or {α : Type} {p : Prop} [Decidable p] {a b c : α} (h : (if p then a else b) = c) : (p ∧ a = c) ∨ (¬ p ∧ b = c) := by
  by_cases hp : p
  · rw [if_pos hp] at h; exact .inl ⟨hp, h⟩
  · rw [if_neg hp] at h; exact .inr ⟨hp, h⟩
theorem mrk_in {s : ByteArray} {b : Bool} {a i k : Nat} {t : Tr} (hi : i ≤ s.size) (h : mrkF s b a i = .ok t k) : i < k ∧ k ≤ s.size := by
  unfold mrkF at h
  by_cases h0 : i = s.size
  · rw [if_pos h0] at h
    cases h
  rw [if_neg h0] at h
  have h1 := nx_in s b i (by omega)
  generalize nextZ s i b = z at h h1
  iterate 10
    rcases ite_or h with ⟨_, h⟩ | ⟨_, h⟩
    · cases h
      omega
  cases hm : meantF z.1 with
  | none => rw [hm] at h; cases h
  | some c =>
    rw [hm] at h
    cases h
    omega
theorem brk_in {s : ByteArray} {b : Bool} {a i k : Nat} {t : Tr} (hi : i ≤ s.size) (h : brkF s b a i = .ok t k) : i < k ∧ k ≤ s.size := by
  unfold brkF at h
  split at h
  · cases h
  · rename_i l k2 hm
    cases h
    by_cases hc : st1 s i 94 = true
    · rw [if_pos hc] at hm
      have := st1_lt hc
      have := set_in (by omega) hm
      omega
    · rw [if_neg hc] at hm
      exact set_in hi hm
def GrpIn (s : ByteArray) (grp : Nat → Nat → Rs Tr) : Prop := ∀ a i k t, i ≤ s.size → grp a i = .ok t k → i ≤ k ∧ k ≤ s.size
theorem node_in {grp : Nat → Nat → Rs Tr} {s : ByteArray} {b : Bool} {i k : Nat} {t : Tr} (hg : GrpIn s grp) (hi : i < s.size) (h : nodeF grp s b i = .ok t k) : i < k ∧ k ≤ s.size := by
  have h1 := nx_in s b i hi
  unfold nodeF at h
  split at h
  · have := hg _ _ _ _ h1.2 h
    omega
  split at h
  · have := brk_in h1.2 h
    omega
  split at h
  · have := mrk_in h1.2 h
    omega
  repeat' split at h
  all_goals
    cases h
    omega
/-- Does a row end here? -/
def rowE (s : ByteArray) (i : Nat) : Prop := i = s.size ∨ st1 s i 124 = true ∨ st1 s i 41 = true
theorem row_end {grp : Nat → Nat → Rs Tr} {s : ByteArray} {b : Bool} {f i : Nat} {kids : List Tr} (h : rowE s i) : rowF grp s b (f + 1) i kids = .ok (togF 5 kids) i := by
  rw [rowF, if_pos (show i = s.size ∨ st1 s i 124 = true ∨ st1 s i 41 = true from h)]
theorem row_rep {grp : Nat → Nat → Rs Tr} {s : ByteArray} {b : Bool} {f i k : Nat} {ks : List Tr} {t : Tr} {r : Int × Int} (h : ¬ rowE s i) (hr : repF s i = some (.ok r k)) :
    rowF grp s b (f + 1) i (ks ++ [t]) = rowF grp s b f k (ks ++ [trR r.1 r.2 t]) := by
  rw [rowF, if_neg (show ¬ (i = s.size ∨ st1 s i 124 = true ∨ st1 s i 41 = true) from h), hr]
  simp
theorem row_repbad {grp : Nat → Nat → Rs Tr} {s : ByteArray} {b : Bool} {f i k : Nat} {e : Int} {ks : List Tr} {t : Tr} (h : ¬ rowE s i) (hr : repF s i = some (.bad k e)) :
    rowF grp s b (f + 1) i (ks ++ [t]) = .bad k e := by
  rw [rowF, if_neg (show ¬ (i = s.size ∨ st1 s i 124 = true ∨ st1 s i 41 = true) from h), hr]
  simp
theorem row_node {grp : Nat → Nat → Rs Tr} {s : ByteArray} {b : Bool} {f i k : Nat} {kids : List Tr} {t : Tr} (h : ¬ rowE s i) (hr : kids = [] ∨ repF s i = none) (hn : nodeF grp s b i = .ok t k) :
    rowF grp s b (f + 1) i kids = rowF grp s b f k (kids ++ [t]) := by
  rw [rowF, if_neg (show ¬ (i = s.size ∨ st1 s i 124 = true ∨ st1 s i 41 = true) from h), hn]
  rcases hr with rfl | hr
  · simp
  · rw [hr]
    cases kids.getLast? <;> rfl
theorem row_nodebad {grp : Nat → Nat → Rs Tr} {s : ByteArray} {b : Bool} {f i k : Nat} {e : Int} {kids : List Tr} (h : ¬ rowE s i) (hr : kids = [] ∨ repF s i = none) (hn : nodeF grp s b i = .bad k e) :
    rowF grp s b (f + 1) i kids = .bad k e := by
  rw [rowF, if_neg (show ¬ (i = s.size ∨ st1 s i 124 = true ∨ st1 s i 41 = true) from h), hn]
  rcases hr with rfl | hr
  · simp
  · rw [hr]
    cases kids.getLast? <;> rfl
theorem row_in {grp : Nat → Nat → Rs Tr} {s : ByteArray} {b : Bool} (hg : GrpIn s grp) : ∀ {f i k : Nat} {kids : List Tr} {t : Tr}, i ≤ s.size → rowF grp s b f i kids = .ok t k → i ≤ k ∧ k ≤ s.size
  | 0, _, _, _, _, _, h => by rw [rowF] at h; cases h
  | f + 1, i, k, kids, t, hi, h => by
    by_cases he : rowE s i
    · rw [row_end he] at h
      cases h
      exact ⟨Nat.le_refl _, hi⟩
    have hlt : i < s.size := by
      unfold rowE at he
      omega
    have nd : ∀ kids, (kids = [] ∨ repF s i = none) → rowF grp s b (f + 1) i kids = .ok t k → i ≤ k ∧ k ≤ s.size := fun kids hr h => by
      cases hn : nodeF grp s b i with
      | bad k' e => rw [row_nodebad he hr hn] at h; cases h
      | ok t' k' =>
        rw [row_node he hr hn] at h
        have h1 := node_in hg hlt hn
        have := row_in hg h1.2 h
        omega
    rcases List.eq_nil_or_concat kids with rfl | ⟨ks, u, rfl⟩
    · exact nd _ (.inl rfl) h
    rw [List.concat_eq_append] at h
    cases hr : repF s i with
    | none => exact nd _ (.inr hr) h
    | some q =>
      cases q with
      | bad k' e => rw [row_repbad he hr] at h; cases h
      | ok r k' =>
        rw [row_rep he hr] at h
        have h1 := rep_in hr
        have := row_in hg h1.2 h
        omega
theorem ch_in {grp : Nat → Nat → Rs Tr} {s : ByteArray} {b : Bool} (hg : GrpIn s grp) : ∀ {f i k : Nat} {kids : List Tr} {t : Tr}, i ≤ s.size → chF grp s b f i kids = .ok t k → i ≤ k ∧ k ≤ s.size
  | 0, _, _, _, _, _, h => by rw [chF] at h; cases h
  | f + 1, i, k, kids, t, hi, h => by
    rw [chF] at h
    split at h
    · cases h
    rename_i t' k' hr
    have h1 := row_in hg hi hr
    split at h
    · rename_i hc
      have := st1_lt hc
      have := ch_in hg (show k' + 1 ≤ s.size by omega) h
      omega
    · cases h
      exact h1
theorem grp_in (s : ByteArray) (b : Bool) : ∀ d, GrpIn s (grpF s b d)
  | 0, _, _, _, _, _, h => by rw [grpF] at h; cases h
  | d + 1, a, i, k, t, hi, h => by
    rw [grpF] at h
    split at h
    · cases h
    rename_i t' k' hr
    have h1 := ch_in (grp_in s b d) hi hr
    split at h
    · rename_i hc
      have := st1_lt hc
      cases h
      omega
    · cases h
theorem chD_in {s : ByteArray} {b : Bool} {d i k : Nat} {t : Tr} (hi : i ≤ s.size) (h : chD s b d i = .ok t k) : i ≤ k ∧ k ≤ s.size := ch_in (grp_in s b d) hi h

mutual
theorem wt_in : ∀ t : Tr, 0 ≤ t.wt ∧ t.wt ≤ 1048576
  | .mk kind _ _ _ lo hi kids => by
    have h := wts_in kids 0 (Int.le_refl _) (by omega)
    rw [Tr.wt]
    split
    · exact h
    · split
      · refine ⟨?_, by omega⟩
        have : 0 ≤ Tr.wts 0 kids * min (if hi < 0 then min (max 0 lo) 1048576 + 1 else hi) 1048576 := Int.mul_nonneg h.1 (by split <;> omega)
        omega
      · omega
theorem wts_in : ∀ (l : List Tr) (a : Int), 0 ≤ a → a ≤ 1048576 → 0 ≤ Tr.wts a l ∧ Tr.wts a l ≤ 1048576
  | [], a, h0, h1 => by rw [Tr.wts]; exact ⟨h0, h1⟩
  | t :: l, a, h0, h1 => by
    have := wt_in t
    rw [Tr.wts]
    exact wts_in l _ (by omega) (by omega)
end
theorem wts_snoc : ∀ (l : List Tr) (a : Int) (t : Tr), Tr.wts a (l ++ [t]) = min (Tr.wts a l + t.wt) 1048576
  | [], a, t => by rw [List.nil_append, Tr.wts, Tr.wts, Tr.wts]
  | u :: l, a, t => by rw [List.cons_append, Tr.wts, wts_snoc l, Tr.wts]
/-- A tree is greater than its kids. -/
theorem size_kid {kind code : Int} {neg : Bool} {set : List (Int × Int)} {lo hi : Int} {kids : List Tr} {t : Tr} (h : t ∈ kids) : SizeOf.sizeOf t < SizeOf.sizeOf (Tr.mk kind code neg set lo hi kids) := by
  have := List.sizeOf_lt_of_mem h
  simp
  omega
end Go.Proofs.YtmfcofiihopbfaaDoor

namespace Go.Proofs.YtmfcofiihopbfaaDoor
open Go.RowKit Go.Lib

/-- Past the ends of the string. -/
theorem nextZ_out (s : ByteArray) (i : Int) (b : Bool) (h : i < 0 ∨ (s.size : Int) ≤ i) : nextZ s i b = (0, 0) := if_pos h
theorem nextZ_in (s : ByteArray) (i : Nat) (b : Bool) (h : i < s.size) : nextZ s (i : Int) b = if b then ((s.get! i).toNat, 1) else chS s i := by
  unfold nextZ; rw [if_neg (by omega)]; rfl

theorem decodeGo_tail (s : ByteArray) (i : Nat) (h : i < s.size) : decodeGo (s.extract i s.size) = decodeN (s.size - i) (s.get! i).toNat (s.get! (i + 1)).toNat (s.get! (i + 2)).toNat (s.get! (i + 3)).toNat := by
  unfold decodeGo
  rw [if_neg (by rw [ByteArray.size_extract]; omega), decode_at, tail_get!, tail_get!, tail_get!, tail_get!, ByteArray.size_extract, Nat.min_self, Nat.sub_zero]
  simp only [Nat.add_zero, Nat.zero_add]
end Go.Proofs.YtmfcofiihopbfaaDoor

namespace Go.Proofs.YtmfcofiihopbfaaDoor
open Go.RowKit Go.Lib

theorem decodeN_lt (n b0 b1 b2 b3 : Nat) : (decodeN n b0 b1 b2 b3).1 ≤ 1114111 ∧ 1 ≤ (decodeN n b0 b1 b2 b3).2 ∧ (decodeN n b0 b1 b2 b3).2 ≤ 4 := by
  unfold decodeN
  repeat' split
  all_goals (simp only; omega)

set_option maxRecDepth 100000 in
set_option maxHeartbeats 1000000 in
theorem next_any (s : ByteArray) (i : Int) (b : Bool) (w : World) (hT : Utf8Tabs 0 1 w) (_hs : s.size ≤ 9223372036854775807) :
    Calls Tryd.prog 33 #[.string s, .int .i64 i, .bool b] w fun e w' => e = .returned (.tuple #[.int .i64 (nextZ s i b).1, .int .i64 (nextZ s i b).2]) ∧ Below w.heap.size w w' := by
  by_cases h0 : i < 0
  · rw [nextZ_out s i b (.inl h0)]
    clear hT
    go_enter Tryd.func33, Tryd.ntmps33
    go_wp2
    go_ret2
    exact ⟨rfl, Below.refl _ _⟩
  by_cases h1 : (s.size : Int) ≤ i
  · rw [nextZ_out s i b (.inr h1)]
    clear hT
    go_enter Tryd.func33, Tryd.ntmps33
    go_wp2
    go_ret2
    exact ⟨rfl, Below.refl _ _⟩
  obtain ⟨k, rfl⟩ : ∃ k : Nat, i = k := ⟨i.toNat, by omega⟩
  have hk : k < s.size := by omega
  have gk := get!_lt s k hk
  rw [nextZ_in s k b hk]
  cases b
  · have cD := Tryd.utf8_DecodeRuneInString (s.extract k s.size) w hT
    rw [decodeGo_tail s k hk] at cD
    have hd := decodeN_lt (s.size - k) (s.get! k).toNat (s.get! (k + 1)).toNat (s.get! (k + 2)).toNat (s.get! (k + 3)).toNat
    simp only [Bool.false_eq_true, if_false]
    unfold chS chN
    obtain ⟨R, hR⟩ : ∃ R, (decodeN (s.size - k) (s.get! k).toNat (s.get! (k + 1)).toNat (s.get! (k + 2)).toNat (s.get! (k + 3)).toNat).1 = R := ⟨_, rfl⟩
    obtain ⟨K, hK⟩ : ∃ K, (decodeN (s.size - k) (s.get! k).toNat (s.get! (k + 1)).toNat (s.get! (k + 2)).toNat (s.get! (k + 3)).toNat).2 = K := ⟨_, rfl⟩
    have hRK : decodeN (s.size - k) (s.get! k).toNat (s.get! (k + 1)).toNat (s.get! (k + 2)).toNat (s.get! (k + 3)).toNat = (R, K) := by rw [← hR, ← hK]
    rw [hRK] at cD hd ⊢
    simp only at hd
    obtain ⟨hd1, hd2, hd3⟩ := hd
    clear hR hK hRK hT
    have hb := get!_lt256 s k
    rw [← gk] at hb ⊢
    have GK := Lib.hid gk; clear gk
    have CD := Lib.hid cD; clear cD
    by_cases hr : R = 65533
    · by_cases hK1 : K = 1
      · subst hr; subst hK1
        rw [if_pos rfl]
        go_enter Tryd.func33, Tryd.ntmps33
        go_wp2_with (go_at_call 40; refine CD.out.mono ?_; rintro e w' ⟨rfl, hb⟩)
        go_ret2
        exact ⟨by simp, hb⟩
      · rw [if_neg (by simp; omega)]
        subst hr
        have hK1' : ((K : Int) == 1) = false := by simp; omega
        go_enter Tryd.func33, Tryd.ntmps33
        go_wp2_with (go_at_call 40; refine CD.out.mono ?_; rintro e w' ⟨rfl, hb⟩)
        go_ret2
        exact ⟨rfl, hb⟩
    · rw [if_neg (by simp; omega)]
      have hr' : ((R : Int) == 65533) = false := by simp; omega
      go_enter Tryd.func33, Tryd.ntmps33
      go_wp2_with (go_at_call 40; refine CD.out.mono ?_; rintro e w' ⟨rfl, hb⟩)
      go_ret2
      exact ⟨rfl, hb⟩
  · simp only [if_true]
    have hb := get!_lt256 s k
    rw [← gk] at hb ⊢
    have GK := Lib.hid gk; clear gk hT
    go_enter Tryd.func33, Tryd.ntmps33
    go_wp2
    go_ret2
    exact ⟨by simp, Below.refl _ _⟩

end Go.Proofs.YtmfcofiihopbfaaDoor

namespace Go.Proofs.YtmfcofiihopbfaaDoor
open Go.RowKit Go.Lib

/-- The parser's block. -/
def Prs (W : World) (pb : Nat) (s : ByteArray) (b : Bool) (i n : Nat) : Prop := Blk W pb #[.string s, .bool b, .int .i64 (i : Int), .int .i64 (n : Int)] 46
abbrev pbP (pb : Nat) : Value := .pointer (some ⟨pb, 0, none⟩)
theorem Prs.four {W : World} {pb : Nat} {s : ByteArray} {b : Bool} {i n : Nat} (h : Prs W pb s b i n) : W.cell? ⟨pb, 0, none⟩ = some (.string s) ∧ W.cell? ⟨pb, 1, none⟩ = some (.bool b) ∧ W.cell? ⟨pb, 2, none⟩ = some (.int .i64 (i : Int)) ∧ W.cell? ⟨pb, 3, none⟩ = some (.int .i64 (n : Int)) ∧ W.frozen? ⟨pb, 2, none⟩ = false ∧ W.frozen? ⟨pb, 3, none⟩ = false :=
  ⟨Blk.cell h 0, Blk.cell h 1, Blk.cell h 2, Blk.cell h 3, Blk.fro h 2, Blk.fro h 3⟩
theorem Prs.kept {W W' : World} {pb : Nat} {s : ByteArray} {b : Bool} {i n : Nat} (h : Prs W pb s b i n) (hb : Below W.heap.size W W') : Prs W' pb s b i n := Blk.below h hb (Blk.lt h)
theorem Prs.to {W : World} {pb : Nat} {s : ByteArray} {b : Bool} {i n : Nat} (h : Prs W pb s b i n) (j : Nat) : Prs (W.setCell ⟨pb, 2, none⟩ (.int .i64 (j : Int))) pb s b j n := Blk.set h
theorem Prs.open {W : World} {pb : Nat} {s : ByteArray} {b : Bool} {i n : Nat} (h : Prs W pb s b i n) (j : Nat) : Prs (W.setCell ⟨pb, 3, none⟩ (.int .i64 (j : Int))) pb s b i j := Blk.set h
/-- What a step leaves: the parser stands at j, and nothing else has turned. -/
structure Stp (pb : Nat) (s : ByteArray) (b : Bool) (j n : Nat) (W w' : World) : Prop where
  prs : Prs w' pb s b j n
  off : Off2 pb pb W w'
theorem Stp.of {pb : Nat} {s : ByteArray} {b : Bool} {i n : Nat} {W w' : World} (h : Prs W pb s b i n) (hb : Below W.heap.size W w') : Stp pb s b i n W w' := ⟨h.kept hb, Off2.of_below hb⟩
theorem Stp.refl {pb : Nat} {s : ByteArray} {b : Bool} {i n : Nat} {W : World} (h : Prs W pb s b i n) : Stp pb s b i n W W := Stp.of h (Below.refl _ _)
theorem Stp.drewN {pb : Nat} {s : ByteArray} {b : Bool} {i n : Nat} {W : World} (h : Prs W pb s b i n) (k : Nat) : Stp pb s b i n W (W.drewN k) := Stp.of h (below_drewN (Below.refl _ _) k)
theorem Stp.trans {pb : Nat} {s : ByteArray} {b : Bool} {j j' n n' : Nat} {W W1 W2 : World} (h : Stp pb s b j n W W1) (k : Stp pb s b j' n' W1 W2) : Stp pb s b j' n' W W2 := ⟨k.prs, h.off.trans k.off⟩
theorem Stp.to {pb : Nat} {s : ByteArray} {b : Bool} {i n : Nat} {W W1 : World} (h : Stp pb s b i n W W1) (j : Nat) : Stp pb s b j n W (W1.setCell ⟨pb, 2, none⟩ (.int .i64 (j : Int))) := ⟨h.prs.to j, h.off.trans (Off2.setCell W1 pb pb 2 _)⟩
theorem Stp.open {pb : Nat} {s : ByteArray} {b : Bool} {i n : Nat} {W W1 : World} (h : Stp pb s b i n W W1) (j : Nat) : Stp pb s b i j W (W1.setCell ⟨pb, 3, none⟩ (.int .i64 (j : Int))) := ⟨h.prs.open j, h.off.trans (Off2.setCell W1 pb pb 3 _)⟩
theorem Stp.alloc {pb : Nat} {s : ByteArray} {b : Bool} {i n : Nat} {W W1 : World} (h : Stp pb s b i n W W1) (o : Obj) : Stp pb s b i n W (W1.alloc o) := ⟨Blk.alloc h.prs o, h.off.trans (Off2.of_below ((Below.refl _ _).alloc (Nat.le_refl _) o))⟩
theorem Stp.dr {pb : Nat} {s : ByteArray} {b : Bool} {i n : Nat} {W W1 : World} (h : Stp pb s b i n W W1) (k : Nat) : Stp pb s b i n W (W1.drewN k) := h.trans (Stp.drewN h.prs k)
theorem Stp.below {pb : Nat} {s : ByteArray} {b : Bool} {i n : Nat} {W W1 W2 : World} (h : Stp pb s b i n W W1) (hb : Below W1.heap.size W1 W2) : Stp pb s b i n W W2 := h.trans (Stp.of h.prs hb)
theorem tabs_sub {g h n : Nat} {W W' : World} (hT : Utf8Tabs g h W) (hb : Below n W W') (hg : g < n) (hh : h < n) : Utf8Tabs g h W' :=
  ⟨fun j hj => (hb.cell (p := ⟨g, _, none⟩) hg).trans (hT.1 j hj), fun j hj => ⟨(hb.cell (p := ⟨h, _, none⟩) hh).trans (hT.2 j hj).1, (hb.cell (p := ⟨h, _, none⟩) hh).trans (hT.2 j hj).2⟩⟩
/-- What the steps lean on: the library's tables, and a number of its own. -/
structure Env (W : World) (pb : Nat) : Prop where
  tabs : Utf8Tabs 0 1 W
  mx : ∃ m, W.cell? ⟨2, 0, none⟩ = some (.int .i64 m)
  far : 0 < pb ∧ 1 < pb ∧ 2 < pb
theorem Env.kept {W W' : World} {pb : Nat} (h : Env W pb) (hb : Below pb W W') : Env W' pb := by
  obtain ⟨m, hm⟩ := h.mx
  exact ⟨tabs_sub h.tabs hb h.far.1 h.far.2.1, ⟨m, (hb.cell (p := ⟨2, 0, none⟩) h.far.2.2).trans hm⟩, h.far⟩
theorem Env.step {W W' : World} {pb : Nat} {s : ByteArray} {b : Bool} {j n : Nat} (h : Env W pb) (hs : Stp pb s b j n W W') (hp : pb < W.heap.size) : Env W' pb := h.kept (hs.off.below (Nat.le_refl _) (Nat.le_refl _) (Nat.le_of_lt hp))
/-- A panic with a fault. -/
abbrev flt (k : Nat) (e : Int) : Ending := .panicked [{ v := .iface 44 (.agg #[.int .i64 (k : Int), .int .i64 e]), recovered := false }]
/-- What a part of the parser leaves. -/
def RxOut {α : Type} (good : α → Value → World → Prop) (pb : Nat) (s : ByteArray) (b : Bool) (n : Nat) (W : World) (r : Rs α) (e : Ending) (w' : World) : Prop :=
  match r with
  | .ok a k => ∃ v, e = .returned v ∧ good a v w' ∧ Stp pb s b k n W w'
  | .bad k er => e = flt k er ∧ Off2 pb pb W w'

theorem rx_ended_q {W : World} {pb : Nat} {s : ByteArray} {b : Bool} {i n : Nat} (h : Prs W pb s b i n) (p : Bool) (hp : ((i : Int) == (s.size : Int)) = p) :
    Calls Tryd.prog 15 #[pbP pb] W fun e w' => e = .returned (.bool p) ∧ ∃ m, w' = W.drewN m := by
  obtain ⟨h0, _, h2, _⟩ := h.four
  rw [← hp]
  clear h hp
  go_enter Tryd.func15, Tryd.ntmps15
  go_wp2_with fail
  go_quiet (fail)
  go_wp2_with fail
  go_ret
  exact ⟨rfl, _, rfl⟩
theorem rx_ended {W : World} {pb : Nat} {s : ByteArray} {b : Bool} {i n : Nat} (h : Prs W pb s b i n) (p : Bool) (hp : ((i : Int) == (s.size : Int)) = p) :
    Calls Tryd.prog 15 #[pbP pb] W fun e w' => e = .returned (.bool p) ∧ Stp pb s b i n W w' :=
  (rx_ended_q h p hp).mono fun _ _ ⟨he, m, hm⟩ => ⟨he, by rw [hm]; exact Stp.drewN h m⟩
theorem rx_stands_q {W : World} {pb : Nat} {s : ByteArray} {b : Bool} {i n : Nat} (h : Prs W pb s b i n) (hi : i ≤ s.size) (t : ByteArray) (p : Bool) (hp : hasPrefix (s.data.toList.drop i) t.data.toList = p) :
    Calls Tryd.prog 21 #[pbP pb, .string t] W fun e w' => e = .returned (.bool p) ∧ ∃ m, w' = W.drewN m := by
  obtain ⟨h0, _, h2, _⟩ := h.four
  have cP := fun W => Tryd.strings_HasPrefix (s.extract i s.size) t W
  rw [extract_to_end, hp] at cP
  have CP := Lib.hid cP
  clear h cP hp
  go_enter Tryd.func21, Tryd.ntmps21
  go_wp2_with fail
  go_quiet ((go_at_call 24; exact Calls.quiet_of_same (CP.out _)))
  go_wp2_with fail
  go_ret
  exact ⟨rfl, _, rfl⟩
theorem rx_stands {W : World} {pb : Nat} {s : ByteArray} {b : Bool} {i n : Nat} (h : Prs W pb s b i n) (hi : i ≤ s.size) (t : ByteArray) (p : Bool) (hp : hasPrefix (s.data.toList.drop i) t.data.toList = p) :
    Calls Tryd.prog 21 #[pbP pb, .string t] W fun e w' => e = .returned (.bool p) ∧ Stp pb s b i n W w' :=
  (rx_stands_q h hi t p hp).mono fun _ _ ⟨he, m, hm⟩ => ⟨he, by rw [hm]; exact Stp.drewN h m⟩
theorem rx_wrong (pb a : Nat) (W : World) : Calls Tryd.prog 16 #[pbP pb, .int .i64 (a : Int)] W fun e w' => e = flt a 90 ∧ W = w' := by
  go_enter Tryd.func16, Tryd.ntmps16
  go_wp2_with fail
  exact ⟨rfl, rfl, rfl⟩
theorem rx_big (pb a : Nat) (W : World) : Calls Tryd.prog 17 #[pbP pb, .int .i64 (a : Int)] W fun e w' => e = flt a 91 ∧ W = w' := by
  go_enter Tryd.func17, Tryd.ntmps17
  go_wp2_with fail
  exact ⟨rfl, rfl, rfl⟩
/-- 'take': gone past, if it stands there. -/
theorem rx_take {W : World} {pb : Nat} {s : ByteArray} {b : Bool} {i n : Nat} (h : Prs W pb s b i n) (hi : i ≤ s.size) (hs : s.size ≤ 1024) (t : ByteArray) (p : Bool) (hp : hasPrefix (s.data.toList.drop i) t.data.toList = p) (ht : t.size ≤ 2) :
    Calls Tryd.prog 19 #[pbP pb, .string t] W fun e w' => e = .returned (.bool p) ∧ Stp pb s b (if p then i + t.size else i) n W w' := by
  have CS := Lib.hid (rx_stands h hi t p hp)
  clear h hp
  obtain ⟨k, hk⟩ : ∃ k, i + t.size = k := ⟨_, rfl⟩
  have hk2 : (i : Int) + (t.size : Int) = (k : Int) := by omega
  have hw : IntKind.i64.wrap (k : Int) = (k : Int) := by simp [IntKind.wrap, IntKind.bits, IntKind.signed]; omega
  rw [hk]
  cases p
  · go_enter Tryd.func19, Tryd.ntmps19
    go_wp2_with (go_at_call 21; refine CS.out.mono ?_; rintro e w' ⟨rfl, hS⟩; have HS := Lib.hid hS)
    go_ret
    exact ⟨rfl, HS.out⟩
  · go_enter Tryd.func19, Tryd.ntmps19
    go_wp2_with (go_at_call 21; refine CS.out.mono ?_; rintro e w' ⟨rfl, hS⟩; have HS := Lib.hid hS; obtain ⟨_, _, q2, _, q4, _⟩ := hS.prs.four; clear hS)
    go_ret
    exact ⟨rfl, HS.out.to k⟩
theorem below_drew' (B : Nat) (W : World) : Below B W W.drew := ⟨rfl, rfl, rfl, Nat.le_refl _, fun _ _ => rfl⟩
theorem rx_next {W : World} {pb : Nat} {s : ByteArray} {b : Bool} {i n : Nat} (h : Prs W pb s b i n) (hi : i < s.size) (hs : s.size ≤ 1024) (hE : Env W pb) :
    Calls Tryd.prog 26 #[pbP pb] W fun e w' => e = .returned (.int .i64 ((nextZ s i b).1 : Int)) ∧ Stp pb s b (i + (nextZ s i b).2) n W w' := by
  have HP := Lib.hid h
  have HE := Lib.hid hE
  obtain ⟨h0, h1, h2, _, _⟩ := h.four
  have cN := fun w hw => next_any s i b w hw (by omega)
  have hx := nx_in s b i hi
  obtain ⟨C, hC⟩ : ∃ C, (nextZ s i b).1 = C := ⟨_, rfl⟩
  obtain ⟨Z, hZ⟩ : ∃ Z, (nextZ s i b).2 = Z := ⟨_, rfl⟩
  rw [hZ] at hx
  rw [hC, hZ] at cN ⊢
  have CN := Lib.hid cN
  obtain ⟨k, hk⟩ : ∃ k, i + Z = k := ⟨_, rfl⟩
  have hk2 : (i : Int) + (Z : Int) = (k : Int) := by omega
  have hw : IntKind.i64.wrap (k : Int) = (k : Int) := by simp [IntKind.wrap, IntKind.bits, IntKind.signed]; omega
  rw [hk]
  clear cN hE hC hZ h
  go_enter Tryd.func26, Tryd.ntmps26
  go_wp2_with fail
  have HK := Lib.hid (fun (W' : World) (hb : Below W.heap.size W W') => (show W'.cell? ⟨pb, 0, none⟩ = some (.string s) ∧ W'.cell? ⟨pb, 1, none⟩ = some (.bool b) ∧ W'.cell? ⟨pb, 2, none⟩ = some (.int .i64 (i : Int)) from ⟨(HP.out.kept hb).four.1, (HP.out.kept hb).four.2.1, (HP.out.kept hb).four.2.2.1⟩))
  go_region_held3 (fun w' => w'.cell? ⟨pb, 0, none⟩ = some (.string s) ∧ w'.cell? ⟨pb, 1, none⟩ = some (.bool b) ∧ w'.cell? ⟨pb, 2, none⟩ = some (.int .i64 (i : Int)))
    (first | (with_reducible exact S1) | go_keep)
    (first | (go_at_call 33; refine (CN.out _ (HE.out.kept (below_drew' pb _)).tabs).mono ?_; rintro e W1 ⟨rfl, hb⟩; have hbb : Below W.heap.size W W1 := (below_drew' _ _).trans hb; have S1 := HK.out _ hbb; have hS := Stp.of HP.out hbb; have HS := Lib.hid hS; obtain ⟨_, _, q2, _, q4, _⟩ := hS.prs.four; clear hS hb))
  all_goals
    go_wp2_with fail
    go_ret
    exact ⟨rfl, HS.out.to k⟩
end Go.Proofs.YtmfcofiihopbfaaDoor

namespace Go.Proofs.YtmfcofiihopbfaaDoor
open Go.RowKit Go.Lib Go.Sort

/-- Ranges in the cells of a block. -/
def RngR (W : World) (g : Nat) (l : List (Int × Int)) : Prop := ∀ j r, l[j]? = some r → (W.cell? ⟨g, j * 2, none⟩ = some (.int .i64 r.1) ∧ W.cell? ⟨g, j * 2 + 1, none⟩ = some (.int .i64 r.2)) ∧ W.frozen? ⟨g, j * 2, none⟩ = false ∧ W.frozen? ⟨g, j * 2 + 1, none⟩ = false
def encR (x : Int × Int) : List Value := [.int .i64 x.1, .int .i64 x.2]
/-- The cells of ranges. -/
def flatR (l : List (Int × Int)) : List Value := l.flatMap encR
theorem flatR_len : ∀ l : List (Int × Int), (flatR l).length = l.length * 2
  | [] => rfl
  | r :: l => by
    have := flatR_len l
    unfold flatR at this ⊢
    rw [List.flatMap_cons, List.length_append, this, List.length_cons]
    simp only [encR, List.length_cons, List.length_nil]
    omega
theorem flatR_at : ∀ (l : List (Int × Int)) (j : Nat) (r : Int × Int), l[j]? = some r → (flatR l)[j * 2]? = some (.int .i64 r.1) ∧ (flatR l)[j * 2 + 1]? = some (.int .i64 r.2)
  | [], j, r, h => by simp at h
  | q :: l, 0, r, h => by
    obtain rfl : q = r := by simpa using h
    exact ⟨rfl, rfl⟩
  | q :: l, j + 1, r, h => by
    have := flatR_at l j r (by simpa using h)
    unfold flatR at this ⊢
    rw [List.flatMap_cons]
    rw [show (j + 1) * 2 = j * 2 + 2 by omega, show j * 2 + 2 + 1 = j * 2 + 1 + 2 by omega]
    exact this
theorem flatR_app (l m : List (Int × Int)) : flatR (l ++ m) = flatR l ++ flatR m := List.flatMap_append
theorem RngR.below {W W' : World} {g n : Nat} {l : List (Int × Int)} (h : RngR W g l) (hb : Below n W W') (hg : g < n) : RngR W' g l := fun j r hj => by
  obtain ⟨⟨a, b⟩, c, d⟩ := h j r hj
  exact ⟨⟨(hb.cell (p := ⟨g, j * 2, none⟩) hg).trans a, (hb.cell (p := ⟨g, j * 2 + 1, none⟩) hg).trans b⟩, (hb.frozen (p := ⟨g, j * 2, none⟩) hg).trans c, (hb.frozen (p := ⟨g, j * 2 + 1, none⟩) hg).trans d⟩
/-- A block whose cells these are. -/
theorem RngR.of_row {W : World} {g : Nat} {cur : Array Value} {t : TypeId} {l : List (Int × Int)} (h : W.heap[g]? = some (.cells cur t (0, 0))) (hc : cur.toList.take (l.length * 2) = flatR l) : RngR W g l := fun j r hj => by
  have hl : j < l.length := (List.getElem?_eq_some_iff.1 hj).1
  obtain ⟨a, b⟩ := flatR_at l j r hj
  rw [← hc, List.getElem?_take_of_lt (by omega), Array.getElem?_toList] at a b
  exact ⟨⟨(cell_of_row W _ _ _ _ _ h).trans a, (cell_of_row W _ _ _ _ _ h).trans b⟩, frozen_of_row W _ _ _ _ h, frozen_of_row W _ _ _ _ h⟩

theorem rx_compare (x y : Int) (W : World) : Calls Tryd.prog 45 #[.int .i64 x, .int .i64 y] W fun e w' => e = .returned (.int .i64 (if x < y then -1 else if y < x then 1 else 0)) ∧ W = w' := by
  have CN : ∀ (x : Int) (W : World), Calls Tryd.prog 51 #[.int .i64 x] W fun e w' => e = .returned (.bool false) ∧ W = w' := fun x W => by
    go_enter Tryd.func51, Tryd.ntmps51
    go_wp2_with fail
    go_ret
    exact ⟨by simp, rfl⟩
  have CN := Lib.hid CN
  by_cases h1 : x < y
  · rw [if_pos h1]
    go_enter Tryd.func45, Tryd.ntmps45
    go_wp2_with (go_at_call 51; refine (CN.out _ _).mono ?_; rintro e w' ⟨rfl, rfl⟩)
    go_ret
    exact ⟨rfl, rfl⟩
  · rw [if_neg h1]
    by_cases h2 : y < x
    · rw [if_pos h2]
      go_enter Tryd.func45, Tryd.ntmps45
      go_wp2_with (go_at_call 51; refine (CN.out _ _).mono ?_; rintro e w' ⟨rfl, rfl⟩)
      go_ret
      exact ⟨rfl, rfl⟩
    · rw [if_neg h2]
      go_enter Tryd.func45, Tryd.ntmps45
      go_wp2_with (go_at_call 51; refine (CN.out _ _).mono ?_; rintro e w' ⟨rfl, rfl⟩)
      go_ret
      exact ⟨rfl, rfl⟩
def cmpLo (x y : Int × Int) : Int := if x.1 < y.1 then -1 else if y.1 < x.1 then 1 else 0
theorem ltLo (x y : Int × Int) : Go.Proofs.ltOf cmpLo x y = decide (x.1 < y.1) := by
  unfold Go.Proofs.ltOf cmpLo
  by_cases h1 : x.1 < y.1
  · simp [h1]
  · by_cases h2 : y.1 < x.1 <;> simp [h1, h2]
theorem swoLo : SWO (Go.Proofs.ltOf cmpLo) where
  irrefl x := by rw [ltLo]; simp
  trans x y z h1 h2 := by rw [ltLo] at *; simp at *; omega
  ntrans x y z h1 h2 := by rw [ltLo] at *; simp at *; omega
theorem rx_byLo (x y : Int × Int) (W : World) : Calls Tryd.prog 44 #[.agg #[.int .i64 x.1, .int .i64 x.2], .agg #[.int .i64 y.1, .int .i64 y.2]] W fun e w' => e = .returned (.int .i64 (cmpLo x y)) ∧ ∃ q os', w' = grow (W.drewN q) os' := by
  have hcon := fun W' => rx_compare x.1 y.1 W'
  change ∀ W', Calls _ _ _ _ (fun e w' => e = .returned (.int .i64 (cmpLo x y)) ∧ _) at hcon
  generalize cmpLo x y = r at hcon ⊢
  have HC := Lib.hid hcon
  clear hcon
  go_enter Tryd.func44, Tryd.ntmps44
  go_wp2_with (go_at_call 45; refine (HC.out _).mono ?_; rintro e w' ⟨rfl, rfl⟩)
  go_ret
  exact ⟨rfl, 0, _, by rw [alloc_eq_grow, alloc_eq_grow, grow_grow]; rfl⟩
theorem holdsR {W : World} {g : Nat} {l : List (Int × Int)} (h : RngR W g l) : HoldsK encR 2 W g 0 l.toArray := by
  intro t ht
  rw [size_flatK] at ht
  rw [get_flatK _ _ _ _ ht, Nat.zero_add]
  have hj : t / 2 < l.length := by simp at ht; omega
  obtain ⟨⟨a, b⟩, c, d⟩ := h (t / 2) _ (List.getElem?_eq_getElem hj)
  have e : l.toArray[t / 2]! = l[t / 2] := by
    rw [getElem!_pos _ _ (by simpa using hj)]
    simp
  rw [e]
  rcases Nat.mod_two_eq_zero_or_one t with m | m
  · rw [m]
    rw [show t / 2 * 2 = t by omega] at a c
    exact ⟨a, c⟩
  · rw [m]
    rw [show t / 2 * 2 + 1 = t by omega] at b d
    exact ⟨b, d⟩
theorem rngR_of {W : World} {g : Nat} {d : Array (Int × Int)} (h : HoldsK encR 2 W g 0 d) : RngR W g d.toList := fun j r hj => by
  have hl : j < d.size := by simpa using (List.getElem?_eq_some_iff.1 hj).1
  have e : d[j]! = r := by
    rw [getElem!_pos d j hl]
    rw [Array.getElem?_toList, Array.getElem?_eq_getElem hl] at hj
    exact Option.some.inj hj
  have a := h.cell (i := j) (c := 0) hl (by decide)
  have b := h.cell (i := j) (c := 1) hl (by decide)
  rw [e, Nat.zero_add, Nat.add_zero] at a
  rw [e, Nat.zero_add] at b
  exact ⟨⟨a.1, b.1⟩, a.2, b.2⟩
set_option maxHeartbeats 1000000 in
theorem rx_sort {W : World} {g : Nat} {l : List (Int × Int)} (h : RngR W g l) (hg : g < W.heap.size) (hl : l.length ≤ 100000) (cap : Nat) :
    Calls Tryd.prog 43 #[.slice (some ⟨g, 0, none⟩) l.length cap, .func (.func 44) #[] #[]] W fun e w' => e = .returned (.tuple #[]) ∧ ∃ d, d.Perm l ∧ RxLow d ∧ RngR w' g d ∧ Off2 g g W w' := by
  have eg : ∀ args w, (callFunc 44 args).run Tryd.prog w = .ok (.enter 44 args) w := enters_of Tryd.func44 (by kernel_rfl) rfl
  have hcon := AnyQ.slices_SortFunc Tryd.sl_sort 2 Tryd.isAgg42 Tryd.sizeOf42 encR (fun _ => rfl) (fun x v hv => by simp [encR] at hv; rcases hv with rfl | rfl <;> rfl) cmpLo swoLo 44 #[] g 0 cap l.toArray W eg (fun _ _ _ _ x y => rx_byLo x y _) (holdsR h) hg (by simp; omega)
  have hs : l.toArray.size = l.length := by simp
  rw [hs] at hcon
  refine (show Calls _ _ _ _ _ from hcon).mono ?_
  rintro e w' ⟨he, d', n, os, hp, hso, rfl⟩
  obtain ⟨p1, p2, p3⟩ := hp
  have hz : d'.size = l.length := by rw [p1, hs]
  have e1 : d'.extract 0 l.length = d' := by rw [← hz]; simp
  have e2 : l.toArray.extract 0 l.length = l.toArray := by simp
  rw [e1, e2] at p3
  refine ⟨he, d'.toList, by simpa using p3, ?_, ?_, ?_⟩
  · unfold RxLow
    rw [List.pairwise_iff_getElem]
    intro i j hi hj hij
    have hj' : j < d'.size := by simpa using hj
    have := hso i j (Nat.zero_le _) hij (by omega)
    rw [ltLo, decide_eq_false_iff_not, getElem!_pos d' j hj', getElem!_pos d' i (by omega)] at this
    simp only [Array.getElem_toList]
    omega
  · refine rngR_of ?_
    have h1 := holdsK_putRowK encR 2 (Sort.ahead W n) g 0 l.toArray d' (holdsR h) (by rw [hz, hs])
    exact holdsK_grow encR 2 _ os g 0 d' (by rw [show (putRowK encR 2 (Sort.ahead W n) g 0 d').heap.size = W.heap.size from by simp [putRowK, putRow, mapBlock, Sort.ahead]]; exact hg) h1
  · refine ⟨rfl, rfl, rfl, by simp [sortWorldK, putRowK, putRow, mapBlock, Sort.ahead], fun k hk hne _ => ?_⟩
    unfold sortWorldK
    rw [heap_grow_old _ _ (by simpa [putRowK, putRow, mapBlock, Sort.ahead] using hk)]
    have : g ≠ k := fun e => hne e.symm
    simp [putRowK, putRow, mapBlock, Sort.ahead, Array.getElem?_modify, this]
end Go.Proofs.YtmfcofiihopbfaaDoor
