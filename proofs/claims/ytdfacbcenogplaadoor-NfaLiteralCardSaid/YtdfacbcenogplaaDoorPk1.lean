/- Several texts in one (Plain arithmetic of layer 1: the character at a place of a string; Plain arithmetic of layer 1: the places at which the characters of a string begin; Plain: what a pattern reads as, the place of the first fault, the weight (layer 9); Plain: from where to where a pattern's tree leads (layer 10), and that the instructions that are laid for it lead just so; Plain: beginnings of what is left, and the places that a pattern's parts end at; Plain: the rounds of rows and choices, and the places that they end at; Plain: which trees may be, what is made ready of them, and how much is laid for them (layer 10)). -/
import Derived.Lib.DecodeN
import Derived.Shelf.Unicode.DecodeSlow
import Derived.Lib.RuneCount
import Derived.Lib.IndexMore
import Derived.Lib.Strings
import Derived.Lib.IndexBytes
namespace Go.Proofs.YtdfacbcenogplaaDoor
open Go.Lib

/-- The character at byte i of s: its code and how many bytes it has. -/
def chN (n b0 b1 b2 b3 : Nat) : Nat × Nat := if decodeN n b0 b1 b2 b3 = (65533, 1) then (1114112 + b0, 1) else decodeN n b0 b1 b2 b3
def chS (s : ByteArray) (i : Nat) : Nat × Nat := chN (s.size - i) (s.get! i).toNat (s.get! (i + 1)).toNat (s.get! (i + 2)).toNat (s.get! (i + 3)).toNat

/-- What Next answers. -/
def nextZ (s : ByteArray) (i : Int) (b : Bool) : Nat × Nat :=
  if i < 0 ∨ (s.size : Int) ≤ i then (0, 0) else if b then ((s.get! i.toNat).toNat, 1) else chS s i.toNat


theorem get!_lt (s : ByteArray) (i : Nat) (h : i < s.size) : s[i] = s.get! i := (Utf8W.get!_of_lt s i h).symm

theorem get!_lt256 (s : ByteArray) (i : Nat) : (s.get! i).toNat < 256 := by
  have := UInt8.toNat_lt (s.get! i)
  omega
/-! What 'size' reckons is what the library decodes. -/
/-- The model's decoding, a class of first bytes at a time. -/
theorem dec_two (n b0 b1 b2 b3 : Nat) (hn : 2 ≤ n) (c1 : b1 / 64 = 2) (hb : 194 ≤ b0 ∧ b0 ≤ 223) : decodeN n b0 b1 b2 b3 = (b0 % 32 * 64 + b1 % 64, 2) := by
  unfold decodeN
  rw [if_neg (show ¬ b0 < 128 by omega), if_pos (show b0 / 32 = 6 ∧ 1 < n ∧ b1 / 64 = 2 from ⟨by omega, by omega, c1⟩), if_pos (show b0 % 32 * 64 + b1 % 64 ≥ 128 by omega)]
theorem dec_three (n b0 b1 b2 b3 r : Nat) (hn : 3 ≤ n) (c1 : b1 / 64 = 2) (c2 : b2 / 64 = 2) (hb : 224 ≤ b0 ∧ b0 ≤ 239) (hr : r = b0 % 16 * 4096 + b1 % 64 * 64 + b2 % 64) :
    decodeN n b0 b1 b2 b3 = if r < 2048 ∨ 1114111 < r ∨ (55296 ≤ r ∧ r ≤ 57343) then (65533, 1) else (r, 3) := by
  unfold decodeN
  rw [if_neg (show ¬ b0 < 128 by omega), if_neg (show ¬ (b0 / 32 = 6 ∧ 1 < n ∧ b1 / 64 = 2) by omega), if_pos (show b0 / 16 = 14 ∧ (1 < n ∧ b1 / 64 = 2) ∧ (2 < n ∧ b2 / 64 = 2) from ⟨by omega, ⟨by omega, c1⟩, by omega, c2⟩), ← hr]
  by_cases c : r < 2048 ∨ 1114111 < r ∨ (55296 ≤ r ∧ r ≤ 57343)
  · rw [if_pos c, if_neg (by omega)]
  · rw [if_neg c, if_pos (by omega)]
theorem dec_four (n b0 b1 b2 b3 r : Nat) (hn : 4 ≤ n) (c1 : b1 / 64 = 2) (c2 : b2 / 64 = 2) (c3 : b3 / 64 = 2) (hb : 240 ≤ b0 ∧ b0 ≤ 244) (hr : r = b0 % 8 * 262144 + b1 % 64 * 4096 + b2 % 64 * 64 + b3 % 64) :
    decodeN n b0 b1 b2 b3 = if r < 65536 ∨ 1114111 < r ∨ (55296 ≤ r ∧ r ≤ 57343) then (65533, 1) else (r, 4) := by
  unfold decodeN
  rw [if_neg (show ¬ b0 < 128 by omega), if_neg (show ¬ (b0 / 32 = 6 ∧ 1 < n ∧ b1 / 64 = 2) by omega), if_neg (show ¬ (b0 / 16 = 14 ∧ (1 < n ∧ b1 / 64 = 2) ∧ (2 < n ∧ b2 / 64 = 2)) by omega),
    if_pos (show b0 / 8 = 30 ∧ (1 < n ∧ b1 / 64 = 2) ∧ (2 < n ∧ b2 / 64 = 2) ∧ (3 < n ∧ b3 / 64 = 2) from ⟨by omega, ⟨by omega, c1⟩, ⟨by omega, c2⟩, by omega, c3⟩), ← hr]
  by_cases c : r < 65536 ∨ 1114111 < r ∨ (55296 ≤ r ∧ r ≤ 57343)
  · rw [if_pos c, if_neg (by omega)]
  · rw [if_neg c, if_pos (by omega)]
theorem dec_none (n b0 b1 b2 b3 : Nat) (h : (128 ≤ b0 ∧ b0 ≤ 193) ∨ (245 ≤ b0 ∧ b0 < 256) ∨ (194 ≤ b0 ∧ b0 ≤ 223 ∧ ¬ (2 ≤ n ∧ b1 / 64 = 2)) ∨ (224 ≤ b0 ∧ b0 ≤ 239 ∧ ¬ (3 ≤ n ∧ b1 / 64 = 2 ∧ b2 / 64 = 2)) ∨ (240 ≤ b0 ∧ b0 ≤ 244 ∧ ¬ (4 ≤ n ∧ b1 / 64 = 2 ∧ b2 / 64 = 2 ∧ b3 / 64 = 2))) : decodeN n b0 b1 b2 b3 = (65533, 1) := by
  unfold decodeN
  rw [if_neg (show ¬ b0 < 128 by omega)]
  repeat' split
  all_goals first | rfl | (exfalso; omega)
theorem dec_one (n b0 b1 b2 b3 : Nat) (h : b0 < 128) : decodeN n b0 b1 b2 b3 = (b0, 1) := by
  unfold decodeN
  rw [if_pos h]
end Go.Proofs.YtdfacbcenogplaaDoor

namespace Go.Proofs.YtdfacbcenogplaaDoor
open Go.Lib

/-- How many bytes the character at a place has (0 past the end). -/
def wid (s : ByteArray) (b : Bool) (i : Nat) : Nat := (nextZ s (i : Int) b).2
def uCod (s : ByteArray) (b : Bool) (i : Nat) : Nat := (nextZ s (i : Int) b).1
/-- The place of the k-th character (from 0 on), or the length. -/
def pl (s : ByteArray) (b : Bool) : Nat → Nat
  | 0 => 0
  | k + 1 => pl s b k + wid s b (pl s b k)

theorem nextZ_eq (s : ByteArray) (b : Bool) (i : Nat) : nextZ s (i : Int) b = (uCod s b i, wid s b i) := rfl
theorem wid_out (s : ByteArray) (b : Bool) (i : Nat) (h : s.size ≤ i) : wid s b i = 0 := by
  unfold wid nextZ; rw [if_pos (by omega)]
theorem decodeN_wid (n b0 b1 b2 b3 : Nat) (hn : 1 ≤ n) : 1 ≤ (decodeN n b0 b1 b2 b3).2 ∧ (decodeN n b0 b1 b2 b3).2 ≤ n := by
  unfold decodeN
  repeat' split
  all_goals (simp only; omega)
theorem chN_wid (n b0 b1 b2 b3 : Nat) : (chN n b0 b1 b2 b3).2 = (decodeN n b0 b1 b2 b3).2 := by
  unfold chN
  split
  · rename_i h; rw [h]
  · rfl
theorem wid_byte (s : ByteArray) (i : Nat) (h : i < s.size) : wid s true i = 1 := by
  unfold wid nextZ; rw [if_neg (by omega)]; rfl
theorem wid_char (s : ByteArray) (i : Nat) (h : i < s.size) : wid s false i = (decodeN (s.size - i) (s.get! i).toNat (s.get! (i + 1)).toNat (s.get! (i + 2)).toNat (s.get! (i + 3)).toNat).2 := by
  unfold wid nextZ; rw [if_neg (by omega)]; exact chN_wid _ _ _ _ _
theorem wid_in (s : ByteArray) (b : Bool) (i : Nat) (h : i < s.size) : 1 ≤ wid s b i ∧ i + wid s b i ≤ s.size := by
  cases b
  · rw [wid_char s i h]
    have := decodeN_wid (s.size - i) (s.get! i).toNat (s.get! (i + 1)).toNat (s.get! (i + 2)).toNat (s.get! (i + 3)).toNat (by omega)
    omega
  · rw [wid_byte s i h]; omega
theorem wid_le4 (s : ByteArray) (b : Bool) (i : Nat) : wid s b i ≤ 4 := by
  by_cases h : i < s.size
  · cases b
    · rw [wid_char s i h]
      unfold decodeN
      repeat' split
      all_goals (simp only; omega)
    · rw [wid_byte s i h]; omega
  · rw [wid_out s b i (by omega)]; omega
end Go.Proofs.YtdfacbcenogplaaDoor

namespace Go.Proofs.YtdfacbcenogplaaDoor

/-- A node: kind, code, neg, set, least, most, kids. -/
inductive Tr where
  | mk (kind code : Int) (neg : Bool) (set : List (Int × Int)) (lo hi : Int) (kids : List Tr)
/-- What a part of the parser answers: something and where it stands now, or a fault. -/
inductive Rs (α : Type) where
  | ok (a : α) (k : Nat)
  | bad (k : Nat) (e : Int)

def trZ : Tr := .mk 0 0 false [] 0 0 []
def trK (kind : Int) : Tr := .mk kind 0 false [] 0 0 []
def trC (c : Nat) : Tr := .mk 2 c false [] 0 0 []
def trS (neg : Bool) (set : List (Int × Int)) : Tr := .mk 4 0 neg set 0 0 []
def trN (kind : Int) (kids : List Tr) : Tr := .mk kind 0 false [] 0 0 kids
def trR (lo hi : Int) (t : Tr) : Tr := .mk 7 0 false [] lo hi [t]

/-- Does this byte stand there? -/
def st1 (s : ByteArray) (i c : Nat) : Bool := decide (i < s.size ∧ (s.get! i).toNat = c)
def st2 (s : ByteArray) (i c d : Nat) : Bool := decide (i + 1 < s.size ∧ (s.get! i).toNat = c ∧ (s.get! (i + 1)).toNat = d)
def rxDg (s : ByteArray) (i : Nat) : Bool := decide (i < s.size ∧ 48 ≤ (s.get! i).toNat ∧ (s.get! i).toNat ≤ 57)

def numF (s : ByteArray) : Nat → Nat → Nat → Nat × Nat
  | 0, i, n => (n, i)
  | f + 1, i, n => if rxDg s i then numF s f (i + 1) (min (n * 10 + ((s.get! i).toNat - 48)) 31) else (n, i)
def numR (s : ByteArray) (i n : Nat) : Nat × Nat := numF s (s.size - i) i n

/-- The numbers of an interval, and where it ends. -/
def bndF (s : ByteArray) (i : Nat) : Option (Int × Int × Nat) :=
  if st1 s i 123 then
    if (numR s (i + 1) 0).2 = i + 1 then none
    else if st1 s (numR s (i + 1) 0).2 44 then
      if st1 s (numR s ((numR s (i + 1) 0).2 + 1) 0).2 125 then
        some ((numR s (i + 1) 0).1, if (numR s ((numR s (i + 1) 0).2 + 1) 0).2 = (numR s (i + 1) 0).2 + 1 then -1 else (numR s ((numR s (i + 1) 0).2 + 1) 0).1, (numR s ((numR s (i + 1) 0).2 + 1) 0).2 + 1)
      else none
    else if st1 s (numR s (i + 1) 0).2 125 then some ((numR s (i + 1) 0).1, (numR s (i + 1) 0).1, (numR s (i + 1) 0).2 + 1)
    else none
  else none
/-- May something be repeated so often? -/
def repsF (lo hi : Int) : Bool := decide (0 ≤ lo ∧ lo ≤ 30 ∧ (hi = -1 ∨ (lo ≤ hi ∧ hi ≤ 30)))
def ivlF (s : ByteArray) (i : Nat) : Option (Rs (Int × Int)) :=
  match bndF s i with
  | none => none
  | some (lo, hi, k) => some (if 30 < lo ∨ 30 < hi then .bad i 91 else if repsF lo hi then .ok (lo, hi) k else .bad i 90)
/-- The repeat that stands there. -/
def repF (s : ByteArray) (i : Nat) : Option (Rs (Int × Int)) :=
  if st1 s i 42 then some (.ok (0, -1) (i + 1)) else if st1 s i 43 then some (.ok (1, -1) (i + 1)) else if st1 s i 63 then some (.ok (0, 1) (i + 1)) else ivlF s i

def alnF (c : Nat) : Bool := decide ((48 ≤ c ∧ c ≤ 57) ∨ (65 ≤ c ∧ c ≤ 90) ∨ (97 ≤ c ∧ c ≤ 122))
def meantF (c : Nat) : Option Nat :=
  if c = 110 then some 10 else if c = 116 then some 9 else if c = 114 then some 13 else if c = 102 then some 12 else if c = 118 then some 11 else if c = 97 then some 7 else if c = 98 then some 8
  else if alnF c then none else some c

def clsL (l : List UInt8) : Option (List (Int × Int)) :=
  if l = [97, 108, 112, 104, 97] then some [(65, 90), (97, 122)]
  else if l = [100, 105, 103, 105, 116] then some [(48, 57)]
  else if l = [97, 108, 110, 117, 109] then some [(48, 57), (65, 90), (97, 122)]
  else if l = [117, 112, 112, 101, 114] then some [(65, 90)]
  else if l = [108, 111, 119, 101, 114] then some [(97, 122)]
  else if l = [115, 112, 97, 99, 101] then some [(9, 13), (32, 32)]
  else if l = [98, 108, 97, 110, 107] then some [(9, 9), (32, 32)]
  else if l = [112, 117, 110, 99, 116] then some [(33, 47), (58, 64), (91, 96), (123, 126)]
  else if l = [112, 114, 105, 110, 116] then some [(32, 126)]
  else if l = [103, 114, 97, 112, 104] then some [(33, 126)]
  else if l = [99, 110, 116, 114, 108] then some [(0, 31), (127, 127)]
  else if l = [120, 100, 105, 103, 105, 116] then some [(48, 57), (65, 70), (97, 102)]
  else none
/-- A class, at whose '[:' the place i is; a is where its set begins. -/
def clsF (s : ByteArray) (a i : Nat) : Rs (List (Int × Int)) :=
  if (Go.Lib.cut (s.data.toList.drop (i + 2)) [58, 93]).2.2 then
    match clsL (Go.Lib.cut (s.data.toList.drop (i + 2)) [58, 93]).1 with
    | none => .bad a 90
    | some l => .ok l (i + 2 + (Go.Lib.cut (s.data.toList.drop (i + 2)) [58, 93]).1.length + 2)
  else .bad a 90
def memF (s : ByteArray) (b : Bool) (a i : Nat) : Rs Nat :=
  if i = s.size then .bad a 90
  else if (nextZ s i b).1 = 92 then
    if i + (nextZ s i b).2 = s.size then .bad a 90
    else match meantF (nextZ s ((i + (nextZ s i b).2 : Nat) : Int) b).1 with
      | none => .bad a 90
      | some c => .ok c (i + (nextZ s i b).2 + (nextZ s ((i + (nextZ s i b).2 : Nat) : Int) b).2)
  else .ok (nextZ s i b).1 (i + (nextZ s i b).2)
def itmF (s : ByteArray) (b : Bool) (a i : Nat) : Rs (List (Int × Int)) :=
  if st2 s i 91 58 then clsF s a i
  else match memF s b a i with
    | .bad k e => .bad k e
    | .ok lo k =>
      if !st2 s k 45 93 && st1 s k 45 then
        if st2 s (k + 1) 91 58 then .bad a 90
        else match memF s b a (k + 1) with
          | .bad k e => .bad k e
          | .ok hi k2 => if hi < lo then .bad a 90 else .ok [((lo : Int), (hi : Int))] k2
      else .ok [((lo : Int), (lo : Int))] k
def setF (s : ByteArray) (b : Bool) (a : Nat) : Nat → Bool → Nat → List (Int × Int) → Rs (List (Int × Int))
  | 0, _, _, _ => .bad a 90
  | f + 1, first, i, acc =>
    if !first && st1 s i 93 then .ok acc (i + 1)
    else match itmF s b a i with
      | .bad k e => .bad k e
      | .ok l k => setF s b a f false k (acc ++ l)

/-- Rising ranges of the same codes. -/
def insR (r : Int × Int) : List (Int × Int) → List (Int × Int)
  | [] => [r]
  | x :: l => if x.1 ≤ r.1 then x :: insR r l else r :: x :: l
def srtR : List (Int × Int) → List (Int × Int) → List (Int × Int)
  | acc, [] => acc
  | acc, r :: l => srtR (insR r acc) l
def mrgR : (Int × Int) → List (Int × Int) → List (Int × Int)
  | c, [] => [c]
  | c, r :: l => if r.1 ≤ c.2 + 1 then mrgR (c.1, max c.2 r.2) l else c :: mrgR r l
def jnH : List (Int × Int) → List (Int × Int)
  | [] => []
  | c :: l => mrgR c l
def joinR (l : List (Int × Int)) : List (Int × Int) := jnH (srtR [] l)
def wordR : List (Int × Int) := [(48, 57), (65, 90), (95, 95), (97, 122)]
def spaceR : List (Int × Int) := [(9, 13), (32, 32)]

def mrkF (s : ByteArray) (b : Bool) (a i : Nat) : Rs Tr :=
  if i = s.size then .bad a 90
  else
    if (nextZ s i b).1 = 121 then .ok (trK 10) (i + (nextZ s i b).2)
    else if (nextZ s i b).1 = 66 then .ok (trK 11) (i + (nextZ s i b).2)
    else if (nextZ s i b).1 = 60 then .ok (trK 12) (i + (nextZ s i b).2)
    else if (nextZ s i b).1 = 62 then .ok (trK 13) (i + (nextZ s i b).2)
    else if (nextZ s i b).1 = 96 then .ok (trK 8) (i + (nextZ s i b).2)
    else if (nextZ s i b).1 = 39 then .ok (trK 9) (i + (nextZ s i b).2)
    else if (nextZ s i b).1 = 119 then .ok (trS false wordR) (i + (nextZ s i b).2)
    else if (nextZ s i b).1 = 87 then .ok (trS true wordR) (i + (nextZ s i b).2)
    else if (nextZ s i b).1 = 115 then .ok (trS false spaceR) (i + (nextZ s i b).2)
    else if (nextZ s i b).1 = 83 then .ok (trS true spaceR) (i + (nextZ s i b).2)
    else match meantF (nextZ s i b).1 with
      | none => .bad a 90
      | some c => .ok (trC c) (i + (nextZ s i b).2)
def brkF (s : ByteArray) (b : Bool) (a i : Nat) : Rs Tr :=
  match setF s b a (s.size + 1) true (if st1 s i 94 then i + 1 else i) [] with
  | .bad k e => .bad k e
  | .ok l k => .ok (trS (st1 s i 94) (joinR l)) k
/-- The node at i; 'grp' reads a group whose bracket stands at the first place, and whose inner begins at the second. -/
def nodeF (grp : Nat → Nat → Rs Tr) (s : ByteArray) (b : Bool) (i : Nat) : Rs Tr :=
  if (nextZ s i b).1 = 40 then grp i (i + (nextZ s i b).2)
  else if (nextZ s i b).1 = 91 then brkF s b i (i + (nextZ s i b).2)
  else if (nextZ s i b).1 = 92 then mrkF s b i (i + (nextZ s i b).2)
  else if (nextZ s i b).1 = 46 then .ok (trK 3) (i + (nextZ s i b).2)
  else if (nextZ s i b).1 = 94 then .ok (trK 8) (i + (nextZ s i b).2)
  else if (nextZ s i b).1 = 36 then .ok (trK 9) (i + (nextZ s i b).2)
  else .ok (trC (nextZ s i b).1) (i + (nextZ s i b).2)
def togF (kind : Int) : List Tr → Tr
  | [] => trK 1
  | [t] => t
  | l => trN kind l
def rowF (grp : Nat → Nat → Rs Tr) (s : ByteArray) (b : Bool) : Nat → Nat → List Tr → Rs Tr
  | 0, i, _ => .bad i 90
  | f + 1, i, kids =>
    if i = s.size ∨ st1 s i 124 = true ∨ st1 s i 41 = true then .ok (togF 5 kids) i
    else match kids.getLast?, repF s i with
      | some _, some (.bad k e) => .bad k e
      | some t, some (.ok r k) => rowF grp s b f k (kids.dropLast ++ [trR r.1 r.2 t])
      | _, _ => match nodeF grp s b i with
        | .bad k e => .bad k e
        | .ok t k => rowF grp s b f k (kids ++ [t])
def chF (grp : Nat → Nat → Rs Tr) (s : ByteArray) (b : Bool) : Nat → Nat → List Tr → Rs Tr
  | 0, i, _ => .bad i 90
  | f + 1, i, kids =>
    match rowF grp s b (s.size + 1) i [] with
    | .bad k e => .bad k e
    | .ok t k => if st1 s k 124 then chF grp s b f (k + 1) (kids ++ [t]) else .ok (togF 6 (kids ++ [t])) k
/-- A group, where d more may be open. -/
def grpF (s : ByteArray) (b : Bool) : Nat → Nat → Nat → Rs Tr
  | 0, a, _ => .bad a 91
  | d + 1, a, i =>
    match chF (grpF s b d) s b (s.size + 1) i [] with
    | .bad k e => .bad k e
    | .ok t k => if st1 s k 41 then .ok t (k + 1) else .bad a 90
/-- The choice at i, where d more groups may be open. -/
def chD (s : ByteArray) (b : Bool) (d i : Nat) : Rs Tr := chF (grpF s b d) s b (s.size + 1) i []

mutual
def Tr.wt : Tr → Int
  | .mk kind _ _ _ lo hi kids =>
    if kind = 5 then Tr.wts 0 kids
    else if kind = 7 then min (Tr.wts 0 kids * min (if hi < 0 then min (max 0 lo) 1048576 + 1 else hi) 1048576 + 1) 1048576
    else min (Tr.wts 0 kids + 1) 1048576
def Tr.wts : Int → List Tr → Int
  | a, [] => a
  | a, t :: l => Tr.wts (min (a + Tr.wt t) 1048576) l
end

/-- What Parse answers: a tree, a place, an error. -/
def rxParse (s : ByteArray) (b : Bool) : Tr × Nat × Int :=
  if 1024 < s.size then (trZ, 0, 3)
  else match chD s b 40 0 with
    | .bad k e => (trZ, k, e)
    | .ok t k => if k = s.size then if 200 < t.wt then (trZ, 0, 91) else (t, 0, 0) else (trZ, k, 90)
end Go.Proofs.YtdfacbcenogplaaDoor

namespace Go.Proofs.YtdfacbcenogplaaDoor

/-- What a string is for a search: the place behind a character (none: the end), which leaf's character stands there, and which conditions hold there. -/
structure NEnv where
  nxt : Nat → Option Nat
  fit : Int → Int → Bool → List (Int × Int) → Nat → Bool
  hold : Int → Nat → Bool
/-- One behind the other, so many times. -/
def iterR (R : Nat → Nat → Prop) : Nat → Nat → Nat → Prop
  | 0, a, b => a = b
  | n + 1, a, b => ∃ m, R a m ∧ iterR R n m b
mutual
/-- From which place to which a tree leads. -/
def Tr.leads (E : NEnv) : Tr → Nat → Nat → Prop
  | .mk kind code neg set lo hi kids, a, b =>
    if kind = 1 then a = b
    else if kind = 5 then Tr.leadsRow E kids a b
    else if kind = 6 then Tr.leadsAny E kids a b
    else if kind = 7 then ∃ n : Nat, lo ≤ (n : Int) ∧ (hi = -1 ∨ (n : Int) ≤ hi) ∧ iterR (fun x y => Tr.leadsHead E kids x y) n a b
    else if kind = 2 ∨ kind = 3 ∨ kind = 4 then E.nxt a = some b ∧ E.fit kind code neg set a = true
    else a = b ∧ E.hold kind a = true
def Tr.leadsRow (E : NEnv) : List Tr → Nat → Nat → Prop
  | [], a, b => a = b
  | t :: l, a, b => ∃ m, Tr.leads E t a m ∧ Tr.leadsRow E l m b
def Tr.leadsAny (E : NEnv) : List Tr → Nat → Nat → Prop
  | [], _, _ => False
  | t :: l, a, b => Tr.leads E t a b ∨ Tr.leadsAny E l a b
def Tr.leadsHead (E : NEnv) : List Tr → Nat → Nat → Prop
  | [], a, b => a = b
  | t :: _, a, b => Tr.leads E t a b
end
/-- An instruction. -/
structure Ins where
  kind : Int
  code : Int
  neg : Bool
  set : List (Int × Int)
  ways : List Nat
def insAlt (ws : List Nat) : Ins := ⟨6, 0, false, [], ws⟩
/-- So often the same layer, each ahead of the one before. -/
def iterL (f : Nat → List Ins → Nat × List Ins) : Nat → Nat → List Ins → Nat × List Ins
  | 0, to, C => (to, C)
  | n + 1, to, C => iterL f n (f to C).1 (f to C).2
/-- A layer that may be left out. -/
def optL (f : Nat → List Ins → Nat × List Ins) (out : Nat) (to : Nat) (C : List Ins) : Nat × List Ins :=
  ((f to C).2.length, (f to C).2 ++ [insAlt [(f to C).1, out]])
/-- A layer that leads to itself. -/
def starL (f : Nat → List Ins → Nat × List Ins) (to : Nat) (C : List Ins) : Nat × List Ins :=
  (C.length, (f C.length (C ++ [insAlt []])).2.set C.length (insAlt [(f C.length (C ++ [insAlt []])).1, to]))
/-- What a repeat lays. -/
def repL (f : Nat → List Ins → Nat × List Ins) (lo hi : Int) (to : Nat) (C : List Ins) : Nat × List Ins :=
  iterL f lo.toNat (iterL (optL f to) (hi - lo).toNat (if hi = -1 then starL f to C else (to, C)).1 (if hi = -1 then starL f to C else (to, C)).2).1
    (iterL (optL f to) (hi - lo).toNat (if hi = -1 then starL f to C else (to, C)).1 (if hi = -1 then starL f to C else (to, C)).2).2
mutual
/-- The instruction at which a tree begins that leads on to another one, and all instructions then. -/
def Tr.laid : Tr → Nat → List Ins → Nat × List Ins
  | .mk kind code neg set lo hi kids, to, C =>
    if kind = 1 then (to, C)
    else if kind = 5 then Tr.laidRow kids to C
    else if kind = 6 then ((Tr.laidAny kids to C).2.length, (Tr.laidAny kids to C).2 ++ [insAlt (Tr.laidAny kids to C).1])
    else if kind = 7 then repL (fun x D => Tr.laidHead kids x D) lo hi to C
    else (C.length, C ++ [⟨kind, code, neg, set, [to]⟩])
def Tr.laidRow : List Tr → Nat → List Ins → Nat × List Ins
  | [], to, C => (to, C)
  | t :: l, to, C => Tr.laid t (Tr.laidRow l to C).1 (Tr.laidRow l to C).2
def Tr.laidAny : List Tr → Nat → List Ins → List Nat × List Ins
  | [], _, C => ([], C)
  | t :: l, to, C => ((Tr.laid t to C).1 :: (Tr.laidAny l to (Tr.laid t to C).2).1, (Tr.laidAny l to (Tr.laid t to C).2).2)
def Tr.laidHead : List Tr → Nat → List Ins → Nat × List Ins
  | [], to, C => (to, C)
  | t :: _, to, C => Tr.laid t to C
end
def leafK (k : Int) : Prop := k = 2 ∨ k = 3 ∨ k = 4
instance (k : Int) : Decidable (leafK k) := by unfold leafK; exact inferInstance
/-- From an instruction at a place to the end at a place, in so many steps. -/
inductive NRun (E : NEnv) (D : List Ins) : Nat → Nat → Nat → Nat → Prop
  | done {i a : Nat} {x : Ins} (h : D[i]? = some x) (hk : x.kind = 0) : NRun E D 0 i a a
  | leaf {n i j a m b : Nat} {x : Ins} (h : D[i]? = some x) (hk : leafK x.kind) (hn : E.nxt a = some m) (hf : E.fit x.kind x.code x.neg x.set a = true) (hj : x.ways.head? = some j) (hr : NRun E D n j m b) : NRun E D (n + 1) i a b
  | way {n i j a b : Nat} {x : Ins} (h : D[i]? = some x) (h0 : x.kind ≠ 0) (hk : ¬ leafK x.kind) (hc : x.kind = 6 ∨ E.hold x.kind a = true) (hj : j ∈ x.ways) (hr : NRun E D n j a b) : NRun E D (n + 1) i a b
def NGo (E : NEnv) (D : List Ins) (i a b : Nat) : Prop := ∃ n, NRun E D n i a b
/-- An instruction stands for 'R, and then on at to'. -/
def NStands (E : NEnv) (R : Nat → Nat → Prop) (D : List Ins) (i to : Nat) : Prop :=
  (∀ k a b, NRun E D k i a b → ∃ m k', k' ≤ k ∧ R a m ∧ NRun E D k' to m b) ∧ ∀ a m b, R a m → NGo E D to m b → NGo E D i a b
/-- The same instructions from here to there. -/
def Alike (C D : List Ins) (lo hi : Nat) : Prop := ∀ i, lo ≤ i → i < hi → D[i]? = C[i]?
/-- All ways stay within. -/
def Inside (C : List Ins) (lo hi n : Nat) : Prop := ∀ i x, lo ≤ i → i < hi → C[i]? = some x → (∀ j ∈ x.ways, j < n) ∧ (leafK x.kind → x.ways ≠ [])
/-- What laying a layer does. -/
def Lays (E : NEnv) (R : Nat → Nat → Prop) (f : Nat → List Ins → Nat × List Ins) : Prop :=
  ∀ (to : Nat) (C : List Ins), to < C.length → C.length ≤ (f to C).2.length ∧ Alike C (f to C).2 0 C.length ∧ (f to C).1 < (f to C).2.length ∧ Inside (f to C).2 C.length (f to C).2.length (f to C).2.length ∧
    ∀ D, Alike (f to C).2 D C.length (f to C).2.length → NStands E R D (f to C).1 to

theorem Alike.trans {B C D : List Ins} {lo hi : Nat} (h : Alike B C lo hi) (k : Alike C D lo hi) : Alike B D lo hi := fun i h1 h2 => (k i h1 h2).trans (h i h1 h2)
theorem Alike.sub {C D : List Ins} {lo hi lo' hi' : Nat} (h : Alike C D lo hi) (h1 : lo ≤ lo') (h2 : hi' ≤ hi) : Alike C D lo' hi' := fun i k1 k2 => h i (by omega) (by omega)
theorem NStands.refl (E : NEnv) (D : List Ins) (i : Nat) : NStands E (fun a b => a = b) D i i :=
  ⟨fun k a b h => ⟨a, k, Nat.le_refl _, rfl, h⟩, fun a m b h hr => by subst h; exact hr⟩
theorem NStands.comp {E : NEnv} {R S : Nat → Nat → Prop} {D : List Ins} {i j k : Nat} (h : NStands E R D i j) (g : NStands E S D j k) : NStands E (fun a b => ∃ m, R a m ∧ S m b) D i k := by
  refine ⟨fun n a b hr => ?_, fun a m b hrs hg => ?_⟩
  · obtain ⟨m, n1, hn1, hR, h1⟩ := h.1 n a b hr
    obtain ⟨m2, n2, hn2, hS, h2⟩ := g.1 n1 m b h1
    exact ⟨m2, n2, Nat.le_trans hn2 hn1, ⟨m, hR, hS⟩, h2⟩
  · obtain ⟨m1, hR, hS⟩ := hrs
    exact h.2 a m1 b hR (g.2 m1 m b hS hg)
theorem NStands.congr {E : NEnv} {R S : Nat → Nat → Prop} {D : List Ins} {i j : Nat} (h : NStands E R D i j) (e : ∀ a b, R a b ↔ S a b) : NStands E S D i j :=
  ⟨fun n a b hr => by obtain ⟨m, k, hk, hR, hg⟩ := h.1 n a b hr; exact ⟨m, k, hk, (e _ _).1 hR, hg⟩, fun a m b hS hg => h.2 a m b ((e _ _).2 hS) hg⟩
theorem Lays.congr {E : NEnv} {R S : Nat → Nat → Prop} {f : Nat → List Ins → Nat × List Ins} (h : Lays E R f) (e : ∀ a b, R a b ↔ S a b) : Lays E S f := fun to C hC => by
  obtain ⟨h1, h2, h3, h4, h5⟩ := h to C hC
  exact ⟨h1, h2, h3, h4, fun D hD => (h5 D hD).congr e⟩
theorem Lays.id (E : NEnv) : Lays E (fun a b => a = b) (fun to C => (to, C)) := fun to _C hC =>
  ⟨Nat.le_refl _, fun _ _ _ => rfl, hC, fun _ _ h1 h2 => absurd h1 (Nat.not_le_of_lt h2), fun D _ => NStands.refl E D to⟩
/-- One layer behind another. -/
theorem Lays.comp {E : NEnv} {R S : Nat → Nat → Prop} {f g : Nat → List Ins → Nat × List Ins} (hf : Lays E R f) (hg : Lays E S g) : Lays E (fun a b => ∃ m, S a m ∧ R m b) (fun to C => g (f to C).1 (f to C).2) := fun to C hC => by
  obtain ⟨h1, h2, h3, h4, h5⟩ := hf to C hC
  obtain ⟨k1, k2, k3, k4, k5⟩ := hg (f to C).1 (f to C).2 h3
  refine ⟨Nat.le_trans h1 k1, h2.trans (k2.sub (Nat.le_refl _) h1), k3, fun i x hi1 hi2 hx => ?_, fun D hD => ?_⟩
  · by_cases q : i < (f to C).2.length
    · rw [k2 i (Nat.zero_le _) q] at hx
      obtain ⟨a, b⟩ := h4 i x hi1 q hx
      exact ⟨fun j hj => Nat.lt_of_lt_of_le (a j hj) k1, b⟩
    · exact k4 i x (by omega) hi2 hx
  · exact (k5 D (hD.sub h1 (Nat.le_refl _))).comp (h5 D ((k2.sub (Nat.zero_le _) (Nat.le_refl _)).trans (hD.sub (Nat.le_refl _) k1)))
theorem getElem?_app_last (C : List Ins) (x : Ins) : (C ++ [x])[C.length]? = some x := by simp
theorem alike_app (C : List Ins) (x : Ins) : Alike C (C ++ [x]) 0 C.length := fun _i _ h => List.getElem?_append_left h
theorem run_at {E : NEnv} {D : List Ins} {n i a b : Nat} {x : Ins} (hx : D[i]? = some x) (h : NRun E D n i a b) :
    (x.kind = 0 ∧ a = b ∧ n = 0) ∨ (leafK x.kind ∧ ∃ k m j, n = k + 1 ∧ E.nxt a = some m ∧ E.fit x.kind x.code x.neg x.set a = true ∧ x.ways.head? = some j ∧ NRun E D k j m b) ∨ (x.kind ≠ 0 ∧ ¬ leafK x.kind ∧ (x.kind = 6 ∨ E.hold x.kind a = true) ∧ ∃ k j, n = k + 1 ∧ j ∈ x.ways ∧ NRun E D k j a b) := by
  cases h with
  | done h hk => rw [hx] at h; cases h; exact .inl ⟨hk, rfl, rfl⟩
  | leaf h hk hn hf hj hr => rw [hx] at h; cases h; exact .inr (.inl ⟨hk, _, _, _, rfl, hn, hf, hj, hr⟩)
  | way h h0 hk hc hj hr => rw [hx] at h; cases h; exact .inr (.inr ⟨h0, hk, hc, _, _, rfl, hj, hr⟩)
theorem not_leaf6 : ¬ leafK 6 := by unfold leafK; omega
/-- A fork. -/
theorem run_alt {E : NEnv} {D : List Ins} {n i a b : Nat} {ws : List Nat} (hx : D[i]? = some (insAlt ws)) (h : NRun E D n i a b) : ∃ k j, n = k + 1 ∧ j ∈ ws ∧ NRun E D k j a b := by
  rcases run_at hx h with ⟨h0, _⟩ | ⟨h0, _⟩ | ⟨_, _, _, h⟩
  · exact absurd h0 (show (6 : Int) ≠ 0 by decide)
  · exact absurd h0 not_leaf6
  · exact h
theorem go_alt {E : NEnv} {D : List Ins} {i a b j : Nat} {ws : List Nat} (hx : D[i]? = some (insAlt ws)) (hj : j ∈ ws) (h : NGo E D j a b) : NGo E D i a b := by
  obtain ⟨n, h⟩ := h
  exact ⟨n + 1, .way hx (show (6 : Int) ≠ 0 by decide) not_leaf6 (.inl rfl) hj h⟩
/-- A layer that may be left out. -/
theorem Lays.opt {E : NEnv} {R : Nat → Nat → Prop} {f : Nat → List Ins → Nat × List Ins} (hf : Lays E R f) (out : Nat) (to : Nat) (C : List Ins) (hC : to < C.length) (ho : out < C.length) :
    C.length ≤ (optL f out to C).2.length ∧ Alike C (optL f out to C).2 0 C.length ∧ (optL f out to C).1 < (optL f out to C).2.length ∧ Inside (optL f out to C).2 C.length (optL f out to C).2.length (optL f out to C).2.length ∧
    ∀ D, Alike (optL f out to C).2 D C.length (optL f out to C).2.length → (∀ k a b, NRun E D k (optL f out to C).1 a b → ∃ k', k' < k ∧ (NRun E D k' out a b ∨ ∃ m, R a m ∧ NRun E D k' to m b)) ∧ (∀ a b, NGo E D out a b → NGo E D (optL f out to C).1 a b) ∧ ∀ a m b, R a m → NGo E D to m b → NGo E D (optL f out to C).1 a b := by
  obtain ⟨h1, h2, h3, h4, h5⟩ := hf to C hC
  unfold optL
  obtain ⟨r, hr⟩ : ∃ r, f to C = r := ⟨_, rfl⟩
  rw [hr] at h1 h2 h3 h4 h5
  rw [hr]
  have hl : (r.2 ++ [insAlt [r.1, out]]).length = r.2.length + 1 := by simp
  refine ⟨by rw [hl]; omega, h2.trans ((alike_app r.2 _).sub (Nat.le_refl _) h1), by rw [hl]; exact Nat.lt_succ_self _, fun i x hi1 hi2 hx => ?_, fun D hD => ?_⟩
  · rw [hl] at hi2 ⊢
    by_cases q : i < r.2.length
    · rw [List.getElem?_append_left q] at hx
      obtain ⟨a, b⟩ := h4 i x hi1 q hx
      exact ⟨fun j hj => Nat.lt_succ_of_lt (a j hj), b⟩
    · obtain rfl : i = r.2.length := by omega
      rw [getElem?_app_last] at hx
      cases hx
      refine ⟨fun j hj => ?_, fun h => absurd h not_leaf6⟩
      rcases List.mem_cons.1 hj with rfl | hj
      · omega
      · rw [List.mem_singleton.1 hj]; omega
  · have hx : D[r.2.length]? = some (insAlt [r.1, out]) := (hD _ h1 (by rw [hl]; exact Nat.lt_succ_self _)).trans (getElem?_app_last _ _)
    have hS := h5 D (fun i k1 k2 => (hD i k1 (by rw [hl]; omega)).trans (alike_app r.2 _ i (Nat.zero_le _) k2))
    refine ⟨fun k a b hr2 => ?_, fun a b hg => go_alt hx (by simp) hg, fun a m b hR hg => go_alt hx (by simp) (hS.2 a m b hR hg)⟩
    obtain ⟨k', j, rfl, hj, hr3⟩ := run_alt hx hr2
    rcases List.mem_cons.1 hj with rfl | hj
    · obtain ⟨m, k2, hk2, hR, hr4⟩ := hS.1 k' a b hr3
      exact ⟨k2, by omega, .inr ⟨m, hR, hr4⟩⟩
    · rw [List.mem_singleton.1 hj] at hr3
      exact ⟨k', by omega, .inl hr3⟩
theorem iterR_snoc {R : Nat → Nat → Prop} : ∀ {n a b : Nat}, iterR R (n + 1) a b ↔ ∃ m, iterR R n a m ∧ R m b
  | 0, a, b => by
    constructor
    · rintro ⟨m, h, e⟩
      cases e
      exact ⟨a, rfl, h⟩
    · rintro ⟨m, e, h⟩
      cases e
      exact ⟨b, h, rfl⟩
  | n + 1, a, b => by
    constructor
    · rintro ⟨m, h, k⟩
      obtain ⟨p, h2, k2⟩ := iterR_snoc.1 k
      exact ⟨p, ⟨m, h, h2⟩, k2⟩
    · rintro ⟨p, ⟨m, h, h2⟩, k2⟩
      exact ⟨m, h, iterR_snoc.2 ⟨p, h2, k2⟩⟩
/-- So many layers. -/
theorem Lays.iter {E : NEnv} {R : Nat → Nat → Prop} {f : Nat → List Ins → Nat × List Ins} (hf : Lays E R f) : ∀ n, Lays E (iterR R n) (iterL f n)
  | 0 => Lays.id E
  | n + 1 => (Lays.comp hf (Lays.iter hf n)).congr fun _ _ => iterR_snoc.symm
/-- What the layers that may be left out lead to: at most so many. -/
theorem opts_lay {E : NEnv} {R S : Nat → Nat → Prop} {f : Nat → List Ins → Nat × List Ins} (hf : Lays E R f) (out : Nat) : ∀ (n : Nat) (to : Nat) (C0 C : List Ins), C0.length ≤ C.length → out < C0.length → to < C.length → Alike C0 C 0 C0.length → Inside C C0.length C.length C.length →
    (∀ D, Alike C D C0.length C.length → (∀ k a b, NRun E D k to a b → ∃ k', k' ≤ k ∧ ∃ m, S a m ∧ NRun E D k' out m b) ∧ ∀ a m b, S a m → NGo E D out m b → NGo E D to a b) →
    C0.length ≤ (iterL (optL f out) n to C).2.length ∧ Alike C0 (iterL (optL f out) n to C).2 0 C0.length ∧ (iterL (optL f out) n to C).1 < (iterL (optL f out) n to C).2.length ∧ Inside (iterL (optL f out) n to C).2 C0.length (iterL (optL f out) n to C).2.length (iterL (optL f out) n to C).2.length ∧
    ∀ D, Alike (iterL (optL f out) n to C).2 D C0.length (iterL (optL f out) n to C).2.length → NStands E (fun a b => (∃ j, j < n ∧ iterR R j a b) ∨ ∃ m, iterR R n a m ∧ S m b) D (iterL (optL f out) n to C).1 out
  | 0, to, C0, C, hl, ho, ht, hA, hI, hS => by
    refine ⟨hl, hA, ht, hI, fun D hD => ?_⟩
    obtain ⟨h1, h2⟩ := hS D hD
    refine ⟨fun k a b hr => ?_, fun a m b hR hg => ?_⟩
    · obtain ⟨k', hk, m, hs, hr2⟩ := h1 k a b hr
      exact ⟨m, k', hk, .inr ⟨a, rfl, hs⟩, hr2⟩
    · rcases hR with ⟨j, hj, _⟩ | ⟨x, e, hs⟩
      · exact absurd hj (Nat.not_lt_zero _)
      · cases e
        exact h2 _ m b hs hg
  | n + 1, to, C0, C, hl, ho, ht, hA, hI, hS => by
    obtain ⟨g1, g2, g3, g4, g5⟩ := Lays.opt hf out to C ht (Nat.lt_of_lt_of_le ho hl)
    obtain ⟨r, hr⟩ : ∃ r, optL f out to C = r := ⟨_, rfl⟩
    rw [hr] at g1 g2 g3 g4 g5
    have step : (iterL (optL f out) (n + 1) to C) = iterL (optL f out) n r.1 r.2 := by rw [← hr]; rfl
    rw [step]
    obtain ⟨q1, q2, q3, q4, q5⟩ := opts_lay (S := fun a b => a = b ∨ ∃ m, R a m ∧ S m b) hf out n r.1 C0 r.2 (Nat.le_trans hl g1) ho g3 (hA.trans (g2.sub (Nat.le_refl _) hl)) (fun i x h1 h2 hx => by
      by_cases q : i < C.length
      · rw [g2 i (Nat.zero_le _) q] at hx
        obtain ⟨a, b⟩ := hI i x h1 q hx
        exact ⟨fun j hj => Nat.lt_of_lt_of_le (a j hj) g1, b⟩
      · exact g4 i x (by omega) h2 hx) (fun D hD => by
      obtain ⟨k1, k2, k3⟩ := g5 D (hD.sub hl (Nat.le_refl _))
      obtain ⟨s1, s2⟩ := hS D ((g2.sub (Nat.zero_le _) (Nat.le_refl _)).trans (hD.sub (Nat.le_refl _) g1))
      refine ⟨fun k a b hr2 => ?_, fun a m b hs hg => ?_⟩
      · obtain ⟨k', hk, h | ⟨m, hR, h⟩⟩ := k1 k a b hr2
        · exact ⟨k', by omega, a, .inl rfl, h⟩
        · obtain ⟨k4, hk4, m2, hs, h4⟩ := s1 k' m b h
          exact ⟨k4, by omega, m2, .inr ⟨m, hR, hs⟩, h4⟩
      · rcases hs with e | ⟨m2, hR, hs⟩
        · cases e
          exact k2 _ b hg
        · exact k3 a m2 b hR (s2 m2 m b hs hg))
    refine ⟨q1, q2, q3, q4, fun D hD => (q5 D hD).congr fun a b => ?_⟩
    constructor
    · rintro (⟨j, hj, h⟩ | ⟨m, h, e | ⟨m2, hR, hs⟩⟩)
      · exact .inl ⟨j, by omega, h⟩
      · cases e
        exact .inl ⟨n, by omega, h⟩
      · exact .inr ⟨m2, iterR_snoc.2 ⟨m, h, hR⟩, hs⟩
    · rintro (⟨j, hj, h⟩ | ⟨m, h, hs⟩)
      · by_cases q : j < n
        · exact .inl ⟨j, q, h⟩
        · obtain rfl : j = n := by omega
          exact .inr ⟨b, h, .inl rfl⟩
      · obtain ⟨m2, h2, hR⟩ := iterR_snoc.1 h
        exact .inr ⟨m2, h2, .inr ⟨m, hR, hs⟩⟩
/-- A layer that leads to itself. -/
theorem Lays.star {E : NEnv} {R : Nat → Nat → Prop} {f : Nat → List Ins → Nat × List Ins} (hf : Lays E R f) : Lays E (fun a b => ∃ n, iterR R n a b) (starL f) := fun to C hC => by
  have hl0 : (C ++ [insAlt []]).length = C.length + 1 := by simp
  obtain ⟨h1, h2, h3, h4, h5⟩ := hf C.length (C ++ [insAlt []]) (by omega)
  unfold starL
  obtain ⟨r, hr⟩ : ∃ r, f C.length (C ++ [insAlt []]) = r := ⟨_, rfl⟩
  rw [hr] at h1 h2 h3 h4 h5
  rw [hr]
  rw [hl0] at h1 h2 h4 h5
  have hl : (r.2.set C.length (insAlt [r.1, to])).length = r.2.length := List.length_set
  refine ⟨by rw [hl]; omega, fun i k1 k2 => ?_, by rw [hl]; show C.length < _; omega, fun i x k1 k2 hx => ?_, fun D hD => ?_⟩
  · rw [List.getElem?_set_ne (by omega), h2 i k1 (by omega)]
    exact List.getElem?_append_left k2
  · rw [hl] at k2 ⊢
    by_cases q : i = C.length
    · subst q
      rw [List.getElem?_set_self (by omega)] at hx
      cases hx
      refine ⟨fun j hj => ?_, fun h => absurd h not_leaf6⟩
      rcases List.mem_cons.1 hj with rfl | hj
      · exact h3
      · rw [List.mem_singleton.1 hj]; omega
    · rw [List.getElem?_set_ne (by omega)] at hx
      exact h4 i x (by omega) k2 hx
  · rw [hl] at hD
    have hx : D[C.length]? = some (insAlt [r.1, to]) := by
      rw [hD _ (Nat.le_refl _) (by omega), List.getElem?_set_self (by omega)]
    have hS := h5 D fun i k1 k2 => by rw [hD i (by omega) k2, List.getElem?_set_ne (by omega)]
    refine ⟨fun k => ?_, fun a m b => ?_⟩
    · induction k using Nat.strongRecOn with
      | ind k ih =>
        intro a b hr2
        obtain ⟨k', j, rfl, hj, hr3⟩ := run_alt hx hr2
        rcases List.mem_cons.1 hj with rfl | hj
        · obtain ⟨m, k2, hk2, hR, hr4⟩ := hS.1 k' a b hr3
          obtain ⟨m2, k3, hk3, ⟨n, hn⟩, hr5⟩ := ih k2 (by omega) m b hr4
          exact ⟨m2, k3, by omega, ⟨n + 1, m, hR, hn⟩, hr5⟩
        · rw [List.mem_singleton.1 hj] at hr3
          exact ⟨a, k', by omega, ⟨0, rfl⟩, hr3⟩
    · rintro ⟨n, hn⟩ hg
      show NGo E D C.length a b
      induction n generalizing a with
      | zero =>
        cases hn
        exact go_alt hx (by simp) hg
      | succ n ih =>
        obtain ⟨p, hR, hn⟩ := hn
        exact go_alt hx (by simp) (hS.2 a p b hR (ih p hn))
theorem iterR_add {R : Nat → Nat → Prop} : ∀ {n k a b : Nat}, iterR R (n + k) a b ↔ ∃ m, iterR R n a m ∧ iterR R k m b
  | 0, k, a, b => by
    rw [Nat.zero_add]
    exact ⟨fun h => ⟨a, rfl, h⟩, fun ⟨m, e, h⟩ => by cases e; exact h⟩
  | n + 1, k, a, b => by
    rw [show n + 1 + k = (n + k) + 1 by omega]
    constructor
    · rintro ⟨m, h, h2⟩
      obtain ⟨p, h3, h4⟩ := iterR_add.1 h2
      exact ⟨p, ⟨m, h, h3⟩, h4⟩
    · rintro ⟨p, ⟨m, h, h3⟩, h4⟩
      exact ⟨m, h, iterR_add.2 ⟨p, h3, h4⟩⟩
/-- A repeat. -/
theorem Lays.rep {E : NEnv} {R : Nat → Nat → Prop} {f : Nat → List Ins → Nat × List Ins} (hf : Lays E R f) {lo hi : Int} (h0 : 0 ≤ lo) (hh : hi = -1 ∨ lo ≤ hi) : Lays E (fun a b => ∃ n : Nat, lo ≤ (n : Int) ∧ (hi = -1 ∨ (n : Int) ≤ hi) ∧ iterR R n a b) (repL f lo hi) := by
  by_cases q : hi = -1
  · have e1 : repL f lo hi = fun to C => iterL f lo.toNat (starL f to C).1 (starL f to C).2 := by
      funext to C
      unfold repL
      rw [if_pos q, show (hi - lo).toNat = 0 by omega]
      rfl
    rw [e1]
    refine (Lays.comp hf.star (hf.iter lo.toNat)).congr fun a b => ?_
    constructor
    · rintro ⟨m, h1, n, h2⟩
      exact ⟨lo.toNat + n, by omega, .inl q, iterR_add.2 ⟨m, h1, h2⟩⟩
    · rintro ⟨n, h1, _, h2⟩
      obtain ⟨k, rfl⟩ : ∃ k, n = lo.toNat + k := ⟨n - lo.toNat, by omega⟩
      obtain ⟨m, h3, h4⟩ := iterR_add.1 h2
      exact ⟨m, h3, k, h4⟩
  · have hle : lo ≤ hi := by omega
    have e1 : repL f lo hi = fun to C => iterL f lo.toNat (iterL (optL f to) (hi - lo).toNat to C).1 (iterL (optL f to) (hi - lo).toNat to C).2 := by
      funext to C
      unfold repL
      rw [if_neg q]
    rw [e1]
    have ho : Lays E (fun a b => ∃ j, j ≤ (hi - lo).toNat ∧ iterR R j a b) (fun to C => iterL (optL f to) (hi - lo).toNat to C) := fun to C hC => by
      obtain ⟨q1, q2, q3, q4, q5⟩ := opts_lay (S := fun a b => a = b) hf to (hi - lo).toNat to C C (Nat.le_refl _) hC hC (fun _ _ _ => rfl) (fun i x h1 h2 => absurd h1 (by omega)) (fun D _ => ⟨fun k a b h => ⟨k, Nat.le_refl _, a, rfl, h⟩, fun a m b e h => by cases e; exact h⟩)
      refine ⟨q1, q2, q3, q4, fun D hD => (q5 D hD).congr fun a b => ?_⟩
      constructor
      · rintro (⟨j, hj, h⟩ | ⟨m, h, e⟩)
        · exact ⟨j, by omega, h⟩
        · cases e
          exact ⟨_, Nat.le_refl _, h⟩
      · rintro ⟨j, hj, h⟩
        by_cases p : j < (hi - lo).toNat
        · exact .inl ⟨j, p, h⟩
        · obtain rfl : j = (hi - lo).toNat := by omega
          exact .inr ⟨b, h, rfl⟩
    refine (Lays.comp ho (hf.iter lo.toNat)).congr fun a b => ?_
    constructor
    · rintro ⟨m, h1, n, hn, h2⟩
      exact ⟨lo.toNat + n, by omega, .inr (by omega), iterR_add.2 ⟨m, h1, h2⟩⟩
    · rintro ⟨n, h1, h3, h2⟩
      obtain ⟨k, rfl⟩ : ∃ k, n = lo.toNat + k := ⟨n - lo.toNat, by omega⟩
      obtain ⟨m, h4, h5⟩ := iterR_add.1 h2
      exact ⟨m, h4, k, by omega, h5⟩
mutual
/-- May a tree be laid? -/
def Tr.fine : Tr → Prop
  | .mk kind _ _ _ lo hi kids => (kind ≠ 0 ∧ (kind = 7 → 0 ≤ lo ∧ (hi = -1 ∨ lo ≤ hi))) ∧ Tr.fines kids
def Tr.fines : List Tr → Prop
  | [] => True
  | t :: l => Tr.fine t ∧ Tr.fines l
end
theorem Lays.leaf (E : NEnv) (kind code : Int) (neg : Bool) (set : List (Int × Int)) (h0 : kind ≠ 0) (h6 : kind ≠ 6) :
    Lays E (fun a b => if kind = 2 ∨ kind = 3 ∨ kind = 4 then E.nxt a = some b ∧ E.fit kind code neg set a = true else a = b ∧ E.hold kind a = true) (fun to C => (C.length, C ++ [⟨kind, code, neg, set, [to]⟩])) := fun to C hC => by
  have hl : (C ++ [(⟨kind, code, neg, set, [to]⟩ : Ins)]).length = C.length + 1 := by simp
  refine ⟨by rw [hl]; omega, alike_app C _, by rw [hl]; exact Nat.lt_succ_self _, fun i x k1 k2 hx => ?_, fun D hD => ?_⟩
  · rw [hl] at k2 ⊢
    obtain rfl : i = C.length := by omega
    rw [getElem?_app_last] at hx
    cases hx
    refine ⟨fun j hj => ?_, fun _ => by simp⟩
    rw [List.mem_singleton.1 hj]
    omega
  · have hx : D[C.length]? = some ⟨kind, code, neg, set, [to]⟩ := (hD _ (Nat.le_refl _) (by rw [hl]; omega)).trans (getElem?_app_last _ _)
    refine ⟨fun k a b hr => ?_, fun a m b hR hg => ?_⟩
    · rcases run_at hx hr with ⟨h, _⟩ | ⟨hk, k', m, j, rfl, hn, hf, hj, hr2⟩ | ⟨_, hk, hc, k', j, rfl, hj, hr2⟩
      · exact absurd h h0
      · simp only [List.head?_cons, Option.some.injEq] at hj
        subst hj
        have hk2 : kind = 2 ∨ kind = 3 ∨ kind = 4 := hk
        exact ⟨m, k', Nat.le_succ _, (if_pos hk2).mpr ⟨hn, hf⟩, hr2⟩
      · rw [List.mem_singleton.1 hj] at hr2
        have hk2 : ¬ (kind = 2 ∨ kind = 3 ∨ kind = 4) := hk
        exact ⟨a, k', by omega, (if_neg hk2).mpr ⟨rfl, hc.resolve_left h6⟩, hr2⟩
    · obtain ⟨n, hg⟩ := hg
      show NGo E D C.length a b
      by_cases hk : kind = 2 ∨ kind = 3 ∨ kind = 4
      · have hR := (if_pos hk).mp hR
        exact ⟨n + 1, .leaf hx hk hR.1 hR.2 rfl hg⟩
      · have hR := (if_neg hk).mp hR
        obtain ⟨rfl, hh⟩ := hR
        exact ⟨n + 1, .way hx h0 hk (.inr hh) (by simp) hg⟩
/-- What forks lead to. -/
def LaysAny (E : NEnv) (R : Nat → Nat → Prop) (f : Nat → List Ins → List Nat × List Ins) : Prop :=
  ∀ (to : Nat) (C : List Ins), to < C.length → C.length ≤ (f to C).2.length ∧ Alike C (f to C).2 0 C.length ∧ (∀ j ∈ (f to C).1, j < (f to C).2.length) ∧ Inside (f to C).2 C.length (f to C).2.length (f to C).2.length ∧
    ∀ D, Alike (f to C).2 D C.length (f to C).2.length → (∀ k a b, ∀ j ∈ (f to C).1, NRun E D k j a b → ∃ m k', k' ≤ k ∧ R a m ∧ NRun E D k' to m b) ∧ ∀ a m b, R a m → NGo E D to m b → ∃ j ∈ (f to C).1, NGo E D j a b
theorem LaysAny.alt {E : NEnv} {R : Nat → Nat → Prop} {f : Nat → List Ins → List Nat × List Ins} (hf : LaysAny E R f) : Lays E R (fun to C => ((f to C).2.length, (f to C).2 ++ [insAlt (f to C).1])) := fun to C hC => by
  obtain ⟨h1, h2, h3, h4, h5⟩ := hf to C hC
  obtain ⟨r, hr⟩ : ∃ r, f to C = r := ⟨_, rfl⟩
  rw [hr] at h1 h2 h3 h4 h5
  simp only [hr]
  have hl : (r.2 ++ [insAlt r.1]).length = r.2.length + 1 := by simp
  refine ⟨by rw [hl]; omega, h2.trans ((alike_app r.2 _).sub (Nat.le_refl _) h1), by rw [hl]; exact Nat.lt_succ_self _, fun i x hi1 hi2 hx => ?_, fun D hD => ?_⟩
  · rw [hl] at hi2 ⊢
    by_cases q : i < r.2.length
    · rw [List.getElem?_append_left q] at hx
      obtain ⟨a, b⟩ := h4 i x hi1 q hx
      exact ⟨fun j hj => Nat.lt_succ_of_lt (a j hj), b⟩
    · obtain rfl : i = r.2.length := by omega
      rw [getElem?_app_last] at hx
      cases hx
      exact ⟨fun j hj => Nat.lt_succ_of_lt (h3 j hj), fun h => absurd h not_leaf6⟩
  · have hx : D[r.2.length]? = some (insAlt r.1) := (hD _ h1 (by rw [hl]; exact Nat.lt_succ_self _)).trans (getElem?_app_last _ _)
    obtain ⟨s1, s2⟩ := h5 D (fun i k1 k2 => (hD i k1 (by rw [hl]; omega)).trans (alike_app r.2 _ i (Nat.zero_le _) k2))
    refine ⟨fun k a b hr2 => ?_, fun a m b hR hg => ?_⟩
    · obtain ⟨k', j, rfl, hj, hr3⟩ := run_alt hx hr2
      obtain ⟨m, k2, hk2, hR, hr4⟩ := s1 k' a b j hj hr3
      exact ⟨m, k2, by omega, hR, hr4⟩
    · obtain ⟨j, hj, hg2⟩ := s2 a m b hR hg
      exact go_alt hx hj hg2
theorem LaysAny.cons {E : NEnv} {R S : Nat → Nat → Prop} {f : Nat → List Ins → Nat × List Ins} {g : Nat → List Ins → List Nat × List Ins} (hf : Lays E R f) (hg : LaysAny E S g) : LaysAny E (fun a b => R a b ∨ S a b) (fun to C => ((f to C).1 :: (g to (f to C).2).1, (g to (f to C).2).2)) := fun to C hC => by
  obtain ⟨h1, h2, h3, h4, h5⟩ := hf to C hC
  obtain ⟨k1, k2, k3, k4, k5⟩ := hg to (f to C).2 (Nat.lt_of_lt_of_le hC h1)
  refine ⟨Nat.le_trans h1 k1, h2.trans (k2.sub (Nat.le_refl _) h1), fun j hj => ?_, fun i x hi1 hi2 hx => ?_, fun D hD => ?_⟩
  · rcases List.mem_cons.1 hj with rfl | hj
    · exact Nat.lt_of_lt_of_le h3 k1
    · exact k3 j hj
  · by_cases q : i < (f to C).2.length
    · rw [k2 i (Nat.zero_le _) q] at hx
      obtain ⟨a, b⟩ := h4 i x hi1 q hx
      exact ⟨fun j hj => Nat.lt_of_lt_of_le (a j hj) k1, b⟩
    · exact k4 i x (by omega) hi2 hx
  · have s := h5 D ((k2.sub (Nat.zero_le _) (Nat.le_refl _)).trans (hD.sub (Nat.le_refl _) k1))
    obtain ⟨t1, t2⟩ := k5 D (hD.sub h1 (Nat.le_refl _))
    refine ⟨fun k a b j hj hr => ?_, fun a m b hR hgo => ?_⟩
    · rcases List.mem_cons.1 hj with rfl | hj
      · obtain ⟨m, k', hk, hR, hr2⟩ := s.1 k a b hr
        exact ⟨m, k', hk, .inl hR, hr2⟩
      · obtain ⟨m, k', hk, hS, hr2⟩ := t1 k a b j hj hr
        exact ⟨m, k', hk, .inr hS, hr2⟩
    · rcases hR with hR | hS
      · exact ⟨_, List.mem_cons_self .., s.2 a m b hR hgo⟩
      · obtain ⟨j, hj, hg2⟩ := t2 a m b hS hgo
        exact ⟨j, List.mem_cons_of_mem _ hj, hg2⟩
mutual
/-- A tree is laid as it leads. -/
theorem Tr.lays (E : NEnv) : ∀ (t : Tr), t.fine → Lays E (t.leads E) (fun to C => t.laid to C)
  | .mk kind code neg set lo hi kids, h => by
    rw [Tr.fine] at h
    obtain ⟨⟨h0, h7⟩, hk⟩ := h
    by_cases k1 : kind = 1
    · have e : (fun to C => Tr.laid (.mk kind code neg set lo hi kids) to C) = fun to C => (to, C) := by funext to C; rw [Tr.laid, if_pos k1]
      rw [e]
      exact (Lays.id E).congr fun a b => by rw [Tr.leads, if_pos k1]
    by_cases k5 : kind = 5
    · have e : (fun to C => Tr.laid (.mk kind code neg set lo hi kids) to C) = fun to C => Tr.laidRow kids to C := by funext to C; rw [Tr.laid, if_neg k1, if_pos k5]
      rw [e]
      exact (Tr.laysRow E kids hk).congr fun a b => by rw [Tr.leads, if_neg k1, if_pos k5]
    by_cases k6 : kind = 6
    · have e : (fun to C => Tr.laid (.mk kind code neg set lo hi kids) to C) = fun to C => ((Tr.laidAny kids to C).2.length, (Tr.laidAny kids to C).2 ++ [insAlt (Tr.laidAny kids to C).1]) := by funext to C; rw [Tr.laid, if_neg k1, if_neg k5, if_pos k6]
      rw [e]
      exact (Tr.laysAny E kids hk).alt.congr fun a b => by rw [Tr.leads, if_neg k1, if_neg k5, if_pos k6]
    by_cases k7 : kind = 7
    · have e : (fun to C => Tr.laid (.mk kind code neg set lo hi kids) to C) = fun to C => repL (fun x D => Tr.laidHead kids x D) lo hi to C := by funext to C; rw [Tr.laid, if_neg k1, if_neg k5, if_neg k6, if_pos k7]
      rw [e]
      exact (Lays.rep (Tr.laysHead E kids hk) (h7 k7).1 (h7 k7).2).congr fun a b => by rw [Tr.leads, if_neg k1, if_neg k5, if_neg k6, if_pos k7]
    have e : (fun to C => Tr.laid (.mk kind code neg set lo hi kids) to C) = fun to C => (C.length, C ++ [⟨kind, code, neg, set, [to]⟩]) := by funext to C; rw [Tr.laid, if_neg k1, if_neg k5, if_neg k6, if_neg k7]
    rw [e]
    exact (Lays.leaf E kind code neg set h0 k6).congr fun a b => by rw [Tr.leads, if_neg k1, if_neg k5, if_neg k6, if_neg k7]
theorem Tr.laysRow (E : NEnv) : ∀ (l : List Tr), Tr.fines l → Lays E (Tr.leadsRow E l) (fun to C => Tr.laidRow l to C)
  | [], _ => by
    have e : (fun to C => Tr.laidRow [] to C) = fun to C => (to, C) := by funext to C; rw [Tr.laidRow]
    rw [e]
    exact (Lays.id E).congr fun a b => by rw [Tr.leadsRow]
  | t :: l, h => by
    rw [Tr.fines] at h
    have e : (fun to C => Tr.laidRow (t :: l) to C) = fun to C => Tr.laid t (Tr.laidRow l to C).1 (Tr.laidRow l to C).2 := by funext to C; rw [Tr.laidRow]
    rw [e]
    exact (Lays.comp (Tr.laysRow E l h.2) (Tr.lays E t h.1)).congr fun a b => by rw [Tr.leadsRow]
theorem Tr.laysAny (E : NEnv) : ∀ (l : List Tr), Tr.fines l → LaysAny E (Tr.leadsAny E l) (fun to C => Tr.laidAny l to C)
  | [], _ => by
    have e : (fun to C => Tr.laidAny [] to C) = fun _ C => ([], C) := by funext to C; rw [Tr.laidAny]
    rw [e, show Tr.leadsAny E [] = fun _ _ => False by funext a b; rw [Tr.leadsAny]]
    exact fun to C _ => ⟨Nat.le_refl _, fun _ _ _ => rfl, fun _ hj => (nomatch hj), fun _ _ h1 h2 => absurd h1 (Nat.not_le_of_lt h2), fun _ _ => ⟨fun _ _ _ _ hj => (nomatch hj), fun _ _ _ h => h.elim⟩⟩
  | t :: l, h => by
    rw [Tr.fines] at h
    have e : (fun to C => Tr.laidAny (t :: l) to C) = fun to C => ((Tr.laid t to C).1 :: (Tr.laidAny l to (Tr.laid t to C).2).1, (Tr.laidAny l to (Tr.laid t to C).2).2) := by funext to C; rw [Tr.laidAny]
    rw [e, show Tr.leadsAny E (t :: l) = fun a b => Tr.leads E t a b ∨ Tr.leadsAny E l a b by funext a b; rw [Tr.leadsAny]]
    exact LaysAny.cons (Tr.lays E t h.1) (Tr.laysAny E l h.2)
theorem Tr.laysHead (E : NEnv) : ∀ (l : List Tr), Tr.fines l → Lays E (Tr.leadsHead E l) (fun to C => Tr.laidHead l to C)
  | [], _ => by
    have e : (fun to C => Tr.laidHead [] to C) = fun to C => (to, C) := by funext to C; rw [Tr.laidHead]
    rw [e]
    exact (Lays.id E).congr fun a b => by rw [Tr.leadsHead]
  | t :: l, h => by
    rw [Tr.fines] at h
    have e : (fun to C => Tr.laidHead (t :: l) to C) = fun to C => Tr.laid t to C := by funext to C; rw [Tr.laidHead]
    rw [e]
    exact (Tr.lays E t h.1).congr fun a b => by rw [Tr.leadsHead]
end
/-- The whole program: the end, and the tree ahead of it. -/
def insDone : Ins := ⟨0, 0, false, [], []⟩
theorem laid_whole (E : NEnv) (t : Tr) (h : t.fine) (a b : Nat) : NGo E (t.laid 0 [insDone]).2 (t.laid 0 [insDone]).1 a b ↔ t.leads E a b := by
  obtain ⟨h1, h2, h3, h4, h5⟩ := Tr.lays E t h 0 [insDone] (by decide)
  have hS := h5 (t.laid 0 [insDone]).2 fun _ _ _ => rfl
  have hd : (t.laid 0 [insDone]).2[0]? = some insDone := h2 0 (Nat.le_refl _) (by decide)
  constructor
  · rintro ⟨k, hr⟩
    obtain ⟨m, k', _, hR, hr2⟩ := hS.1 k a b hr
    rcases run_at hd hr2 with ⟨_, rfl, _⟩ | ⟨hk, _⟩ | ⟨h0, _⟩
    · exact hR
    · rcases hk with hk | hk | hk <;> cases hk
    · exact absurd rfl h0
  · intro hl
    exact hS.2 a b b hl ⟨0, .done hd rfl⟩
end Go.Proofs.YtdfacbcenogplaaDoor

namespace Go.Proofs.YtdfacbcenogplaaDoor
open Go.Lib

theorem rx_get (s : ByteArray) (i : Nat) (h : i < s.size) : s.data.toList[i]? = some (s.get! i) := by
  obtain ⟨l⟩ := s
  have h' : i < l.size := h
  show l.toList[i]? = some l[i]!
  rw [Array.getElem?_toList, getElem!_pos l i h', Array.getElem?_eq_getElem h']
theorem rx_drop (s : ByteArray) (i : Nat) (h : i < s.size) : s.data.toList.drop i = s.get! i :: s.data.toList.drop (i + 1) := by
  have h' : i < s.data.toList.length := by simpa using h
  rw [List.drop_eq_getElem_cons h']
  have := rx_get s i h
  rw [List.getElem?_eq_getElem h'] at this
  rw [Option.some.inj this]
theorem rx_drop0 (s : ByteArray) (i : Nat) (h : s.size ≤ i) : s.data.toList.drop i = [] := List.drop_eq_nil_of_le (by simpa using h)
theorem toNat_beq (a b : UInt8) : (a == b) = decide (b.toNat = a.toNat) := by
  rw [Bool.eq_iff_iff, beq_iff_eq, decide_eq_true_eq]
  exact ⟨fun h => by rw [h], fun h => UInt8.toNat_inj.1 h.symm⟩
theorem pre1 (s : ByteArray) (i : Nat) (c : UInt8) : hasPrefix (s.data.toList.drop i) [c] = st1 s i c.toNat := by
  unfold hasPrefix st1
  by_cases h : i < s.size
  · rw [rx_drop s i h, List.isPrefixOf, List.isPrefixOf, Bool.and_true, toNat_beq]
    simp [h]
  · rw [rx_drop0 s i (by omega)]
    simp [h]
theorem pre2 (s : ByteArray) (i : Nat) (c d : UInt8) : hasPrefix (s.data.toList.drop i) [c, d] = st2 s i c.toNat d.toNat := by
  unfold hasPrefix st2
  by_cases h : i + 1 < s.size
  · rw [rx_drop s i (by omega), rx_drop s (i + 1) h, List.isPrefixOf, List.isPrefixOf, List.isPrefixOf, Bool.and_true, toNat_beq, toNat_beq]
    simp [h]
  · by_cases h2 : i < s.size
    · rw [rx_drop s i h2, rx_drop0 s (i + 1) (by omega), List.isPrefixOf]
      simp [h]
    · rw [rx_drop0 s i (by omega)]
      simp [h]
theorem st1_lt {s : ByteArray} {i c : Nat} (h : st1 s i c = true) : i < s.size := (of_decide_eq_true h).1
theorem st2_lt {s : ByteArray} {i c d : Nat} (h : st2 s i c d = true) : i + 1 < s.size := (of_decide_eq_true h).1
theorem st1_end (s : ByteArray) (c : Nat) : st1 s s.size c = false := by simp [st1]
theorem nx_in (s : ByteArray) (b : Bool) (i : Nat) (h : i < s.size) : 1 ≤ (nextZ s i b).2 ∧ i + (nextZ s i b).2 ≤ s.size := wid_in s b i h
/-- The number's loop. -/
theorem numR_step (s : ByteArray) (i n : Nat) (h : rxDg s i = true) : numR s i n = numR s (i + 1) (min (n * 10 + ((s.get! i).toNat - 48)) 31) := by
  have h1 : i < s.size := (of_decide_eq_true h).1
  unfold numR
  obtain ⟨f, hf⟩ : ∃ f, s.size - i = f + 1 := ⟨s.size - i - 1, by omega⟩
  rw [hf, numF, if_pos h, show s.size - (i + 1) = f by omega]
theorem numR_stop (s : ByteArray) (i n : Nat) (h : rxDg s i = false) : numR s i n = (n, i) := by
  unfold numR
  cases hf : s.size - i with
  | zero => rfl
  | succ f => rw [numF, if_neg (by simp [h])]
theorem numF_in (s : ByteArray) : ∀ (f i n : Nat), i ≤ s.size → n ≤ 31 → i ≤ (numF s f i n).2 ∧ (numF s f i n).2 ≤ s.size ∧ (numF s f i n).1 ≤ 31
  | 0, i, n, h, hn => ⟨Nat.le_refl _, h, hn⟩
  | f + 1, i, n, h, hn => by
    unfold numF
    split
    case isTrue hd =>
      have h1 : i < s.size := (of_decide_eq_true hd).1
      have := numF_in s f (i + 1) (min (n * 10 + ((s.get! i).toNat - 48)) 31) (by omega) (by omega)
      exact ⟨by omega, this.2⟩
    case isFalse => exact ⟨Nat.le_refl _, h, hn⟩
theorem numR_in (s : ByteArray) (i : Nat) (h : i ≤ s.size) : i ≤ (numR s i 0).2 ∧ (numR s i 0).2 ≤ s.size ∧ (numR s i 0).1 ≤ 31 := numF_in s _ i 0 h (by omega)
theorem bnd_in {s : ByteArray} {i k : Nat} {lo hi : Int} (h : bndF s i = some (lo, hi, k)) : i < k ∧ k ≤ s.size ∧ 0 ≤ lo ∧ lo ≤ 31 ∧ -1 ≤ hi ∧ hi ≤ 31 := by
  unfold bndF at h
  split at h
  case isFalse => cases h
  case isTrue h0 =>
    have h1 := st1_lt h0
    have a := numR_in s (i + 1) (by omega)
    generalize numR s (i + 1) 0 = r at h a
    split at h
    · cases h
    split at h
    · rename_i h3
      have h3 := st1_lt h3
      have c := numR_in s (r.2 + 1) (by omega)
      generalize numR s (r.2 + 1) 0 = q at h c
      split at h
      · rename_i h4
        have h4 := st1_lt h4
        simp only [Option.some.injEq, Prod.mk.injEq] at h
        obtain ⟨e1, e2, e3⟩ := h
        split at e2 <;> omega
      · cases h
    · split at h
      · rename_i h4
        have h4 := st1_lt h4
        simp only [Option.some.injEq, Prod.mk.injEq] at h
        omega
      · cases h
theorem ivl_in {s : ByteArray} {i k : Nat} {r : Int × Int} (h : ivlF s i = some (.ok r k)) : i < k ∧ k ≤ s.size := by
  unfold ivlF at h
  split at h
  · cases h
  · rename_i lo hi k' hb
    have := bnd_in hb
    split at h
    · cases h
    · split at h
      · cases h
        exact ⟨this.1, this.2.1⟩
      · cases h
theorem rep_in {s : ByteArray} {i k : Nat} {r : Int × Int} (h : repF s i = some (.ok r k)) : i < k ∧ k ≤ s.size := by
  unfold repF at h
  split at h
  · rename_i h0; have := st1_lt h0; cases h; omega
  · split at h
    · rename_i h0; have := st1_lt h0; cases h; omega
    · split at h
      · rename_i h0; have := st1_lt h0; cases h; omega
      · exact ivl_in h
theorem mem_in {s : ByteArray} {b : Bool} {a i k c : Nat} (hi : i ≤ s.size) (h : memF s b a i = .ok c k) : i < k ∧ k ≤ s.size := by
  unfold memF at h
  split at h
  · cases h
  rename_i h0
  have h1 := nx_in s b i (by omega)
  split at h
  · split at h
    · cases h
    rename_i h2
    have h3 := nx_in s b (i + (nextZ s i b).2) (by omega)
    split at h
    · cases h
    · cases h
      omega
  · cases h
    omega
theorem cls_in {s : ByteArray} {a i k : Nat} {l : List (Int × Int)} (h : clsF s a i = .ok l k) : i < k ∧ k ≤ s.size := by
  unfold clsF at h
  split at h
  case isFalse => cases h
  case isTrue hc =>
    split at h
    · cases h
    cases h
    refine ⟨by omega, ?_⟩
    unfold cut at hc ⊢
    split
    case isFalse hx =>
      rw [if_neg hx] at hc
      cases hc
    case isTrue hx =>
      obtain ⟨p, hp, ho⟩ : ∃ p : Nat, index (s.data.toList.drop (i + 2)) [58, 93] = p ∧ occAt (s.data.toList.drop (i + 2)) [58, 93] p = true := by
        rcases index_spec (s.data.toList.drop (i + 2)) [58, 93] with ⟨e, _⟩ | ⟨p, e, _, ho, _⟩
        · omega
        · exact ⟨p, e, ho⟩
      rw [hp]
      unfold occAt at ho
      have hl := (List.isPrefixOf_iff_prefix.1 ho).length_le
      simp only [List.length_cons, List.length_nil, List.length_drop, Int.toNat_natCast, List.length_take, Lib.size_eq] at hl ⊢
      omega
theorem itm_in {s : ByteArray} {b : Bool} {a i k : Nat} {l : List (Int × Int)} (hi : i ≤ s.size) (h : itmF s b a i = .ok l k) : i < k ∧ k ≤ s.size := by
  unfold itmF at h
  split at h
  · exact cls_in h
  split at h
  · cases h
  rename_i lo k0 hm
  have h0 := mem_in hi hm
  split at h
  · split at h
    · cases h
    split at h
    · cases h
    rename_i hc _ _ hi2 k2 hm2
    have hc2 : st1 s k0 45 = true := by
      rw [Bool.and_eq_true] at hc
      exact hc.2
    have h3 := st1_lt hc2
    have h4 := mem_in (by omega) hm2
    split at h
    · cases h
    · cases h
      omega
  · cases h
    exact h0
theorem set_in {s : ByteArray} {b : Bool} {a : Nat} : ∀ {f : Nat} {first : Bool} {i k : Nat} {acc l : List (Int × Int)}, i ≤ s.size → setF s b a f first i acc = .ok l k → i < k ∧ k ≤ s.size
  | 0, _, _, _, _, _, _, h => by unfold setF at h; cases h
  | f + 1, first, i, k, acc, l, hi, h => by
    unfold setF at h
    split at h
    · rename_i hc
      rw [Bool.and_eq_true] at hc
      have := st1_lt hc.2
      cases h
      omega
    · split at h
      · cases h
      · rename_i l2 k2 hm
        have h1 := itm_in hi hm
        have h2 := set_in h1.2 h
        omega
end Go.Proofs.YtdfacbcenogplaaDoor

namespace Go.Proofs.YtdfacbcenogplaaDoor
open Go.Lib

theorem ite_or {α : Type} {p : Prop} [Decidable p] {a b c : α} (h : (if p then a else b) = c) : (p ∧ a = c) ∨ (¬ p ∧ b = c) := by
  by_cases hp : p
  · rw [if_pos hp] at h; exact .inl ⟨hp, h⟩
  · rw [if_neg hp] at h; exact .inr ⟨hp, h⟩
theorem mrk_in {s : ByteArray} {b : Bool} {a i k : Nat} {t : Tr} (hi : i ≤ s.size) (h : mrkF s b a i = .ok t k) : i < k ∧ k ≤ s.size := by
  unfold mrkF at h
  by_cases h0 : i = s.size
  · rw [if_pos h0] at h
    cases h
  rw [if_neg h0] at h
  have h1 := nx_in s b i (by omega)
  generalize nextZ s i b = z at h h1
  iterate 10
    rcases ite_or h with ⟨_, h⟩ | ⟨_, h⟩
    · cases h
      omega
  cases hm : meantF z.1 with
  | none => rw [hm] at h; cases h
  | some c =>
    rw [hm] at h
    cases h
    omega
theorem brk_in {s : ByteArray} {b : Bool} {a i k : Nat} {t : Tr} (hi : i ≤ s.size) (h : brkF s b a i = .ok t k) : i < k ∧ k ≤ s.size := by
  unfold brkF at h
  split at h
  · cases h
  · rename_i l k2 hm
    cases h
    by_cases hc : st1 s i 94 = true
    · rw [if_pos hc] at hm
      have := st1_lt hc
      have := set_in (by omega) hm
      omega
    · rw [if_neg hc] at hm
      exact set_in hi hm
def GrpIn (s : ByteArray) (grp : Nat → Nat → Rs Tr) : Prop := ∀ a i k t, i ≤ s.size → grp a i = .ok t k → i ≤ k ∧ k ≤ s.size
theorem node_in {grp : Nat → Nat → Rs Tr} {s : ByteArray} {b : Bool} {i k : Nat} {t : Tr} (hg : GrpIn s grp) (hi : i < s.size) (h : nodeF grp s b i = .ok t k) : i < k ∧ k ≤ s.size := by
  have h1 := nx_in s b i hi
  unfold nodeF at h
  split at h
  · have := hg _ _ _ _ h1.2 h
    omega
  split at h
  · have := brk_in h1.2 h
    omega
  split at h
  · have := mrk_in h1.2 h
    omega
  repeat' split at h
  all_goals
    cases h
    omega
/-- Does a row end here? -/
def rowE (s : ByteArray) (i : Nat) : Prop := i = s.size ∨ st1 s i 124 = true ∨ st1 s i 41 = true
theorem row_end {grp : Nat → Nat → Rs Tr} {s : ByteArray} {b : Bool} {f i : Nat} {kids : List Tr} (h : rowE s i) : rowF grp s b (f + 1) i kids = .ok (togF 5 kids) i := by
  rw [rowF, if_pos (show i = s.size ∨ st1 s i 124 = true ∨ st1 s i 41 = true from h)]
theorem row_rep {grp : Nat → Nat → Rs Tr} {s : ByteArray} {b : Bool} {f i k : Nat} {ks : List Tr} {t : Tr} {r : Int × Int} (h : ¬ rowE s i) (hr : repF s i = some (.ok r k)) :
    rowF grp s b (f + 1) i (ks ++ [t]) = rowF grp s b f k (ks ++ [trR r.1 r.2 t]) := by
  rw [rowF, if_neg (show ¬ (i = s.size ∨ st1 s i 124 = true ∨ st1 s i 41 = true) from h), hr]
  simp
theorem row_repbad {grp : Nat → Nat → Rs Tr} {s : ByteArray} {b : Bool} {f i k : Nat} {e : Int} {ks : List Tr} {t : Tr} (h : ¬ rowE s i) (hr : repF s i = some (.bad k e)) :
    rowF grp s b (f + 1) i (ks ++ [t]) = .bad k e := by
  rw [rowF, if_neg (show ¬ (i = s.size ∨ st1 s i 124 = true ∨ st1 s i 41 = true) from h), hr]
  simp
theorem row_node {grp : Nat → Nat → Rs Tr} {s : ByteArray} {b : Bool} {f i k : Nat} {kids : List Tr} {t : Tr} (h : ¬ rowE s i) (hr : kids = [] ∨ repF s i = none) (hn : nodeF grp s b i = .ok t k) :
    rowF grp s b (f + 1) i kids = rowF grp s b f k (kids ++ [t]) := by
  rw [rowF, if_neg (show ¬ (i = s.size ∨ st1 s i 124 = true ∨ st1 s i 41 = true) from h), hn]
  rcases hr with rfl | hr
  · simp
  · rw [hr]
    cases kids.getLast? <;> rfl
theorem row_nodebad {grp : Nat → Nat → Rs Tr} {s : ByteArray} {b : Bool} {f i k : Nat} {e : Int} {kids : List Tr} (h : ¬ rowE s i) (hr : kids = [] ∨ repF s i = none) (hn : nodeF grp s b i = .bad k e) :
    rowF grp s b (f + 1) i kids = .bad k e := by
  rw [rowF, if_neg (show ¬ (i = s.size ∨ st1 s i 124 = true ∨ st1 s i 41 = true) from h), hn]
  rcases hr with rfl | hr
  · simp
  · rw [hr]
    cases kids.getLast? <;> rfl
theorem row_in {grp : Nat → Nat → Rs Tr} {s : ByteArray} {b : Bool} (hg : GrpIn s grp) : ∀ {f i k : Nat} {kids : List Tr} {t : Tr}, i ≤ s.size → rowF grp s b f i kids = .ok t k → i ≤ k ∧ k ≤ s.size
  | 0, _, _, _, _, _, h => by rw [rowF] at h; cases h
  | f + 1, i, k, kids, t, hi, h => by
    by_cases he : rowE s i
    · rw [row_end he] at h
      cases h
      exact ⟨Nat.le_refl _, hi⟩
    have hlt : i < s.size := by
      unfold rowE at he
      omega
    have nd : ∀ kids, (kids = [] ∨ repF s i = none) → rowF grp s b (f + 1) i kids = .ok t k → i ≤ k ∧ k ≤ s.size := fun kids hr h => by
      cases hn : nodeF grp s b i with
      | bad k' e => rw [row_nodebad he hr hn] at h; cases h
      | ok t' k' =>
        rw [row_node he hr hn] at h
        have h1 := node_in hg hlt hn
        have := row_in hg h1.2 h
        omega
    rcases List.eq_nil_or_concat kids with rfl | ⟨ks, u, rfl⟩
    · exact nd _ (.inl rfl) h
    rw [List.concat_eq_append] at h
    cases hr : repF s i with
    | none => exact nd _ (.inr hr) h
    | some q =>
      cases q with
      | bad k' e => rw [row_repbad he hr] at h; cases h
      | ok r k' =>
        rw [row_rep he hr] at h
        have h1 := rep_in hr
        have := row_in hg h1.2 h
        omega
theorem ch_in {grp : Nat → Nat → Rs Tr} {s : ByteArray} {b : Bool} (hg : GrpIn s grp) : ∀ {f i k : Nat} {kids : List Tr} {t : Tr}, i ≤ s.size → chF grp s b f i kids = .ok t k → i ≤ k ∧ k ≤ s.size
  | 0, _, _, _, _, _, h => by rw [chF] at h; cases h
  | f + 1, i, k, kids, t, hi, h => by
    rw [chF] at h
    split at h
    · cases h
    rename_i t' k' hr
    have h1 := row_in hg hi hr
    split at h
    · rename_i hc
      have := st1_lt hc
      have := ch_in hg (show k' + 1 ≤ s.size by omega) h
      omega
    · cases h
      exact h1
theorem grp_in (s : ByteArray) (b : Bool) : ∀ d, GrpIn s (grpF s b d)
  | 0, _, _, _, _, _, h => by rw [grpF] at h; cases h
  | d + 1, a, i, k, t, hi, h => by
    rw [grpF] at h
    split at h
    · cases h
    rename_i t' k' hr
    have h1 := ch_in (grp_in s b d) hi hr
    split at h
    · rename_i hc
      have := st1_lt hc
      cases h
      omega
    · cases h
theorem chD_in {s : ByteArray} {b : Bool} {d i k : Nat} {t : Tr} (hi : i ≤ s.size) (h : chD s b d i = .ok t k) : i ≤ k ∧ k ≤ s.size := ch_in (grp_in s b d) hi h

mutual
theorem wt_in : ∀ t : Tr, 0 ≤ t.wt ∧ t.wt ≤ 1048576
  | .mk kind _ _ _ lo hi kids => by
    have h := wts_in kids 0 (Int.le_refl _) (by omega)
    rw [Tr.wt]
    split
    · exact h
    · split
      · refine ⟨?_, by omega⟩
        have : 0 ≤ Tr.wts 0 kids * min (if hi < 0 then min (max 0 lo) 1048576 + 1 else hi) 1048576 := Int.mul_nonneg h.1 (by split <;> omega)
        omega
      · omega
theorem wts_in : ∀ (l : List Tr) (a : Int), 0 ≤ a → a ≤ 1048576 → 0 ≤ Tr.wts a l ∧ Tr.wts a l ≤ 1048576
  | [], a, h0, h1 => by rw [Tr.wts]; exact ⟨h0, h1⟩
  | t :: l, a, h0, h1 => by
    have := wt_in t
    rw [Tr.wts]
    exact wts_in l _ (by omega) (by omega)
end
theorem wts_snoc : ∀ (l : List Tr) (a : Int) (t : Tr), Tr.wts a (l ++ [t]) = min (Tr.wts a l + t.wt) 1048576
  | [], a, t => by rw [List.nil_append, Tr.wts, Tr.wts, Tr.wts]
  | u :: l, a, t => by rw [List.cons_append, Tr.wts, wts_snoc l, Tr.wts]
/-- A tree is greater than its kids. -/
theorem size_kid {kind code : Int} {neg : Bool} {set : List (Int × Int)} {lo hi : Int} {kids : List Tr} {t : Tr} (h : t ∈ kids) : SizeOf.sizeOf t < SizeOf.sizeOf (Tr.mk kind code neg set lo hi kids) := by
  have := List.sizeOf_lt_of_mem h
  simp
  omega
end Go.Proofs.YtdfacbcenogplaaDoor

namespace Go.Proofs.YtdfacbcenogplaaDoor

def enoughB (kind : Int) (n : Nat) : Bool := if kind = 5 ∨ kind = 6 then decide (2 ≤ n) else if kind = 7 then decide (n = 1) else decide (1 ≤ kind ∧ kind ≤ 13 ∧ n = 0)
def riseB : Int → List (Int × Int) → Bool
  | _, [] => true
  | m, r :: l => if r.1 < m ∨ r.2 < r.1 ∨ 1114367 < r.2 then false else riseB (r.2 + 2) l
mutual
/-- May a tree be, that is no deeper than so? -/
def Tr.shape : Tr → Nat → Bool
  | .mk kind _ _ set lo hi kids, d =>
    if d = 0 ∨ enoughB kind kids.length = false then false
    else if (kind = 7 ∧ repsF lo hi = false) ∨ (kind = 4 ∧ riseB 0 set = false) then false
    else Tr.shapes kids (d - 1)
def Tr.shapes : List Tr → Nat → Bool
  | [], _ => true
  | t :: l, d => Tr.shape t d && Tr.shapes l d
end
mutual
/-- What a tree asks for. -/
def Tr.ownT (f : Int → Int) : Tr → Tr
  | .mk kind code neg set lo hi kids =>
    if kind = 7 ∧ hi = 0 then trK 1
    else .mk kind (if kind = 2 then f code else 0) (decide (kind = 4) && neg) (if kind = 4 then set else []) (if kind = 7 then lo else 0) (if kind = 7 then hi else 0) (Tr.ownsT f kids)
def Tr.ownsT (f : Int → Int) : List Tr → List Tr
  | [] => []
  | t :: l => Tr.ownT f t :: Tr.ownsT f l
end
theorem ownsT_len (f : Int → Int) : ∀ l : List Tr, (Tr.ownsT f l).length = l.length
  | [] => by rw [Tr.ownsT]
  | t :: l => by rw [Tr.ownsT, List.length_cons, List.length_cons, ownsT_len f l]
theorem ownsT_app (f : Int → Int) : ∀ (l m : List Tr), Tr.ownsT f (l ++ m) = Tr.ownsT f l ++ Tr.ownsT f m
  | [], m => by rw [Tr.ownsT, List.nil_append, List.nil_append]
  | t :: l, m => by rw [List.cons_append, Tr.ownsT, Tr.ownsT, List.cons_append, ownsT_app f l m]
/-- What a good node has. -/
theorem shape_open {kind code : Int} {neg : Bool} {set : List (Int × Int)} {lo hi : Int} {kids : List Tr} {d : Nat} (h : (Tr.mk kind code neg set lo hi kids).shape d = true) :
    0 < d ∧ enoughB kind kids.length = true ∧ (kind = 7 → repsF lo hi = true) ∧ (kind = 4 → riseB 0 set = true) ∧ Tr.shapes kids (d - 1) = true := by
  rw [Tr.shape] at h
  split at h
  · cases h
  rename_i h1
  split at h
  · cases h
  rename_i h2
  have h1 := not_or.1 h1
  have h2 := not_or.1 h2
  refine ⟨by omega, by simpa using h1.2, fun e => ?_, fun e => ?_, h⟩
  · have := fun q => h2.1 ⟨e, q⟩
    simpa using this
  · have := fun q => h2.2 ⟨e, q⟩
    simpa using this
theorem shape_mk {kind code : Int} {neg : Bool} {set : List (Int × Int)} {lo hi : Int} {kids : List Tr} {d : Nat} (h0 : 0 < d) (h1 : enoughB kind kids.length = true) (h2 : kind = 7 → repsF lo hi = true) (h3 : kind = 4 → riseB 0 set = true) (h4 : Tr.shapes kids (d - 1) = true) :
    (Tr.mk kind code neg set lo hi kids).shape d = true := by
  rw [Tr.shape, if_neg, if_neg]
  · exact h4
  · rintro (⟨e, q⟩ | ⟨e, q⟩)
    · rw [h2 e] at q; cases q
    · rw [h3 e] at q; cases q
  · rintro (e | e)
    · omega
    · rw [h1] at e; cases e
mutual
theorem shape_mono : ∀ (t : Tr) (d e : Nat), d ≤ e → t.shape d = true → t.shape e = true
  | .mk kind code neg set lo hi kids, d, e, hde, h => by
    obtain ⟨h0, h1, h2, h3, h4⟩ := shape_open h
    exact shape_mk (by omega) h1 h2 h3 (shapes_mono kids _ _ (by omega) h4)
theorem shapes_mono : ∀ (l : List Tr) (d e : Nat), d ≤ e → Tr.shapes l d = true → Tr.shapes l e = true
  | [], _, _, _, _ => by rw [Tr.shapes]
  | t :: l, d, e, hde, h => by
    rw [Tr.shapes, Bool.and_eq_true] at h ⊢
    exact ⟨shape_mono t d e hde h.1, shapes_mono l d e hde h.2⟩
end
theorem shapes_mem : ∀ {l : List Tr} {d : Nat}, Tr.shapes l d = true ↔ ∀ t ∈ l, t.shape d = true
  | [], d => by rw [Tr.shapes]; simp
  | t :: l, d => by rw [Tr.shapes, Bool.and_eq_true, shapes_mem]; simp
theorem reps_in {lo hi : Int} (h : repsF lo hi = true) : 0 ≤ lo ∧ lo ≤ 30 ∧ (hi = -1 ∨ (lo ≤ hi ∧ hi ≤ 30)) := of_decide_eq_true h
mutual
/-- What is made ready of a good tree is fine. -/
theorem fine_own (f : Int → Int) : ∀ (t : Tr) (d : Nat), t.shape d = true → (t.ownT f).fine
  | .mk kind code neg set lo hi kids, d, h => by
    obtain ⟨h0, h1, h2, h3, h4⟩ := shape_open h
    rw [Tr.ownT]
    split
    · unfold trK
      rw [Tr.fine, Tr.fines]
      exact ⟨⟨by decide, fun h => absurd h (by decide)⟩, trivial⟩
    · rename_i q
      rw [Tr.fine]
      refine ⟨⟨fun e => ?_, fun e => ?_⟩, fine_owns f kids _ h4⟩
      · subst e; simp [enoughB] at h1
      · subst e
        have := reps_in (h2 rfl)
        simp only [if_true]
        omega
theorem fine_owns (f : Int → Int) : ∀ (l : List Tr) (d : Nat), Tr.shapes l d = true → Tr.fines (Tr.ownsT f l)
  | [], _, _ => by rw [Tr.ownsT, Tr.fines]; trivial
  | t :: l, d, h => by
    rw [Tr.shapes, Bool.and_eq_true] at h
    rw [Tr.ownsT, Tr.fines]
    exact ⟨fine_own f t d h.1, fine_owns f l d h.2⟩
end
/-! How much is laid. -/
def LenLe (f : Nat → List Ins → Nat × List Ins) (n : Nat) : Prop := ∀ to C, (f to C).2.length ≤ C.length + n
theorem LenLe.iter {f : Nat → List Ins → Nat × List Ins} {n : Nat} (h : LenLe f n) : ∀ k, LenLe (iterL f k) (k * n)
  | 0 => fun to C => by show C.length ≤ _; omega
  | k + 1 => fun to C => by
    rw [iterL]
    have h1 := LenLe.iter h k (f to C).1 (f to C).2
    have h2 := h to C
    rw [Nat.succ_mul]
    omega
theorem LenLe.opt {f : Nat → List Ins → Nat × List Ins} {n : Nat} (h : LenLe f n) (out : Nat) : LenLe (optL f out) (n + 1) := fun to C => by
  have := h to C
  unfold optL
  simp
  omega
theorem LenLe.star {f : Nat → List Ins → Nat × List Ins} {n : Nat} (h : LenLe f n) : LenLe (starL f) (n + 1) := fun to C => by
  have := h C.length (C ++ [insAlt []])
  unfold starL
  simp at this ⊢
  omega
theorem LenLe.rep {f : Nat → List Ins → Nat × List Ins} {n : Nat} (h : LenLe f n) (lo hi : Int) : LenLe (repL f lo hi) (lo.toNat * n + (hi - lo).toNat * (n + 1) + if hi = -1 then n + 1 else 0) := fun to C => by
  unfold repL
  have h1 := fun x : Nat × List Ins => (h.iter lo.toNat) (iterL (optL f to) (hi - lo).toNat x.1 x.2).1 (iterL (optL f to) (hi - lo).toNat x.1 x.2).2
  have h2 := fun x : Nat × List Ins => ((h.opt to).iter (hi - lo).toNat) x.1 x.2
  have h3 := h.star to C
  split
  · have a := h1 (starL f to C)
    have b := h2 (starL f to C)
    omega
  · have a := h1 (to, C)
    have b := h2 (to, C)
    simp only at a b ⊢
    omega
theorem wts_sum : ∀ (l : List Tr) (a : Int), 0 ≤ a → Tr.wts a l < 1048576 → a ≤ Tr.wts a l ∧ ∀ t ∈ l, t.wt < 1048576
  | [], a, _, _ => by rw [Tr.wts]; exact ⟨Int.le_refl _, fun _ h => (nomatch h)⟩
  | t :: l, a, ha, h => by
    rw [Tr.wts] at h ⊢
    have ht := wt_in t
    have := wts_sum l (min (a + t.wt) 1048576) (by omega) h
    refine ⟨by omega, fun u hu => ?_⟩
    rcases List.mem_cons.1 hu with rfl | hu
    · omega
    · exact this.2 u hu
theorem toN_twice {x : Int} {y : Nat} (h : x = y) (hw : min (x + 1) 1048576 < 1048576) : (2 * min (x + 1) 1048576 - 1).toNat = 2 * y + 1 := by omega
mutual
/-- A good tree weighs something, and no more than twice that is laid. -/
theorem own_len (f : Int → Int) : ∀ (t : Tr) (d : Nat), t.shape d = true → t.wt < 1048576 → 1 ≤ t.wt ∧ LenLe (fun to C => (t.ownT f).laid to C) (2 * t.wt - 1).toNat
  | .mk kind code neg set lo hi kids, d, h, hw => by
    obtain ⟨h0, h1, h2, h3, h4⟩ := shape_open h
    have hwt := wt_in (.mk kind code neg set lo hi kids)
    have hws := wts_in kids 0 (Int.le_refl _) (by omega)
    rw [Tr.wt] at hw hwt ⊢
    by_cases k5 : kind = 5
    · subst k5
      simp only [if_true] at hw hwt ⊢
      have hk : 2 ≤ kids.length := by simpa [enoughB] using h1
      obtain ⟨a, b, c⟩ := own_lens f kids _ 0 (Int.le_refl _) h4 hw
      refine ⟨by omega, fun to C => ?_⟩
      show (Tr.laid _ to C).2.length ≤ _
      rw [Tr.ownT, if_neg (by omega), Tr.laid, if_neg (by decide), if_pos rfl]
      have := b to C
      omega
    rw [if_neg k5] at hw hwt ⊢
    by_cases k7 : kind = 7
    · subst k7
      simp only [if_true] at hw hwt ⊢
      have hr := reps_in (h2 rfl)
      have hk : kids.length = 1 := by simpa [enoughB] using h1
      match kids, hk with
      | [t], _ =>
        have hsh : t.shape (d - 1) = true := by simpa [Tr.shapes] using h4
        have ht := wt_in t
        have e1 : Tr.wts 0 [t] = t.wt := by rw [Tr.wts, Tr.wts]; omega
        rw [e1] at hw hwt ⊢
        by_cases hz : hi = 0
        · subst hz
          refine ⟨?_, fun to C => ?_⟩
          · show (1 : Int) ≤ min (t.wt * 0 + 1) 1048576
            rw [Int.mul_zero]
            decide
          · show (Tr.laid _ to C).2.length ≤ _
            rw [Tr.ownT, if_pos ⟨rfl, rfl⟩]
            unfold trK
            rw [Tr.laid, if_pos rfl]
            simp
        · have hm : ∃ m : Int, (if hi < 0 then min (max 0 lo) 1048576 + 1 else hi) = m ∧ min m 1048576 = m ∧ 1 ≤ m ∧ m ≤ 31 := by
            by_cases hh : hi < 0
            · rw [if_pos hh]; exact ⟨_, rfl, by omega, by omega, by omega⟩
            · rw [if_neg hh]; exact ⟨_, rfl, by omega, by omega, by omega⟩
          obtain ⟨m, hm1, hm2, hm3, hm4⟩ := hm
          have hmm : lo.toNat + (hi - lo).toNat + (if hi = -1 then 1 else 0) = m.toNat := by
            rw [← hm1]
            by_cases hh : hi < 0
            · rw [if_pos hh, if_pos (by omega)]; omega
            · rw [if_neg hh, if_neg (by omega)]; omega
          rw [hm1, hm2] at hw hwt ⊢
          have hn0 : 0 ≤ t.wt * m := Int.mul_nonneg ht.1 (by omega)
          have hn1 : t.wt ≤ t.wt * m := by
            have := Int.mul_le_mul_of_nonneg_left hm3 ht.1
            omega
          obtain ⟨a, b⟩ := own_len f t _ hsh (by omega)
          refine ⟨by omega, fun to C => ?_⟩
          show (Tr.laid _ to C).2.length ≤ _
          rw [Tr.ownT, if_neg (fun q => hz q.2), Tr.laid, if_neg (by decide), if_neg (by decide), if_neg (by decide), if_pos rfl]
          simp only [if_true]
          have hl : LenLe (fun x D => Tr.laidHead (Tr.ownsT f [t]) x D) (2 * t.wt - 1).toNat := fun x D => by
            rw [Tr.ownsT]
            show (Tr.laidHead _ _ _).2.length ≤ _
            rw [Tr.laidHead]
            exact b x D
          have := hl.rep lo hi to C
          obtain ⟨n, hn⟩ : ∃ n : Nat, t.wt = n := ⟨t.wt.toNat, by omega⟩
          obtain ⟨k, hk⟩ : ∃ k : Nat, m = k := ⟨m.toNat, by omega⟩
          have e2 : (2 * t.wt - 1).toNat = 2 * n - 1 := by omega
          rw [e2] at this
          have e3 : (2 * min (t.wt * m + 1) 1048576 - 1).toNat = 2 * (n * k) + 1 := by
            exact toN_twice (by rw [hn, hk]; push_cast; rfl) hw
          rw [e3]
          have hmk : lo.toNat + (hi - lo).toNat + (if hi = -1 then 1 else 0) = k := by omega
          have hn1' : 1 ≤ n := by omega
          obtain ⟨p, rfl⟩ : ∃ p, n = p + 1 := ⟨n - 1, by omega⟩
          have e4 : 2 * (p + 1) - 1 = 2 * p + 1 := by omega
          rw [e4] at this
          generalize lo.toNat = A at this hmk
          generalize (hi - lo).toNat = B at this hmk
          have hE : (if hi = -1 then 2 * p + 1 + 1 else 0) = (if hi = -1 then 1 else 0) * (2 * p + 2) := by split <;> omega
          rw [hE] at this
          generalize (if hi = -1 then 1 else 0) = F at this hmk
          subst hmk
          have e5 : 2 * ((p + 1) * (A + B + F)) = A * (2 * p + 2) + B * (2 * p + 2) + F * (2 * p + 2) := by
            rw [Nat.mul_comm (p + 1), ← Nat.mul_assoc, Nat.mul_comm 2, Nat.mul_assoc, show 2 * (p + 1) = 2 * p + 2 by omega, Nat.add_mul, Nat.add_mul]
          rw [e5]
          have e6 : A * (2 * p + 1) ≤ A * (2 * p + 2) := Nat.mul_le_mul_left _ (by omega)
          have e7 : 2 * p + 1 + 1 = 2 * p + 2 := by omega
          rw [e7] at this
          omega
    rw [if_neg k7] at hw hwt ⊢
    by_cases k6 : kind = 6
    · subst k6
      have hk : 2 ≤ kids.length := by simpa [enoughB] using h1
      obtain ⟨a, b, c⟩ := own_lens f kids _ 0 (Int.le_refl _) h4 (by omega)
      refine ⟨by omega, fun to C => ?_⟩
      show (Tr.laid _ to C).2.length ≤ _
      rw [Tr.ownT, if_neg (by omega), Tr.laid, if_neg (by decide), if_neg (by decide), if_pos rfl]
      have := c to C
      simp
      omega
    · refine ⟨by omega, fun to C => ?_⟩
      show (Tr.laid _ to C).2.length ≤ _
      rw [Tr.ownT, if_neg (by omega), Tr.laid]
      by_cases k1 : kind = 1
      · rw [if_pos k1]; simp
      · rw [if_neg k1, if_neg k5, if_neg k6, if_neg k7]
        simp
        omega
theorem own_lens (f : Int → Int) : ∀ (l : List Tr) (d : Nat) (a : Int), 0 ≤ a → Tr.shapes l d = true → Tr.wts a l < 1048576 → a + l.length ≤ Tr.wts a l ∧ (∀ to C, (Tr.laidRow (Tr.ownsT f l) to C).2.length + l.length ≤ C.length + (2 * (Tr.wts a l - a)).toNat) ∧ ∀ to C, (Tr.laidAny (Tr.ownsT f l) to C).2.length + l.length ≤ C.length + (2 * (Tr.wts a l - a)).toNat
  | [], d, a, ha, h, hw => by
    refine ⟨by rw [Tr.wts]; simp, fun to C => ?_, fun to C => ?_⟩
    · rw [Tr.ownsT, Tr.laidRow]; simp
    · rw [Tr.ownsT, Tr.laidAny]; simp
  | t :: l, d, a, ha, h, hw => by
    rw [Tr.shapes, Bool.and_eq_true] at h
    have ht := wt_in t
    have hs := wts_sum (t :: l) a ha hw
    have htw := hs.2 t List.mem_cons_self
    rw [Tr.wts] at hw
    have hs2 := wts_sum l (min (a + t.wt) 1048576) (by omega) hw
    have em : min (a + t.wt) 1048576 = a + t.wt := by omega
    rw [em] at hw hs2
    obtain ⟨p, q⟩ := own_len f t d h.1 htw
    obtain ⟨u, v, x⟩ := own_lens f l d (a + t.wt) (by omega) h.2 hw
    rw [Tr.wts, em]
    refine ⟨by simp; omega, fun to C => ?_, fun to C => ?_⟩
    · rw [Tr.ownsT, Tr.laidRow]
      have h1 := v to C
      have h2 := q (Tr.laidRow (Tr.ownsT f l) to C).1 (Tr.laidRow (Tr.ownsT f l) to C).2
      simp only [List.length_cons] at h1 h2 ⊢
      omega
    · rw [Tr.ownsT, Tr.laidAny]
      have h2 := q to C
      have h1 := x to ((t.ownT f).laid to C).2
      simp only [List.length_cons] at h1 h2 ⊢
      omega
end
/-- How much is laid for a tree that may be. -/
theorem own_laid (f : Int → Int) {t : Tr} {d : Nat} (h : t.shape d = true) (hw : t.wt ≤ 200) : ((t.ownT f).laid 0 [insDone]).2.length ≤ 400 := by
  have := (own_len f t d h (by omega)).2 0 [insDone]
  simp at this
  omega
end Go.Proofs.YtdfacbcenogplaaDoor
