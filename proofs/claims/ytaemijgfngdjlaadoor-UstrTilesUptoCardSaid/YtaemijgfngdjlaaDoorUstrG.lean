/- Contracts of layer 1: Len, recase, Lower, Upper. -/
import Derived.Lib.LazyBuf
import Derived.Test.YtaemijgfngdjlaaDoorUstrE
import Derived.Test.YtaemijgfngdjlaaDoorUstrF
namespace Go.Proofs.YtaemijgfngdjlaaDoor
open Go.RowKit Go.Lib Go.Shelf
attribute [local go_sem] Oper.semAt_some

set_option maxHeartbeats 400000 in
theorem len_any (s : ByteArray) (b : Bool) (w : World) (hs : s.size ≤ 9223372036854775807 - 8) :
    Calls Tryd.prog 20 #[.string s, .bool b] w fun e w' => e = .returned (.int .i64 (cnt s b)) ∧ Below w.heap.size w w' := by
  cases b
  · have cR := Tryd.utf8_RuneCountInString s w (by omega)
    rw [runeCount_cnt] at cR
    have CR := Lib.hid cR; clear cR
    go_enter Tryd.func20, Tryd.ntmps20
    go_wp2_with (go_at_call 35; refine CR.out.mono ?_; rintro e w' ⟨rfl, pos, rfl⟩)
    go_ret
    exact ⟨rfl, (Below.refl _ _).alloc (Nat.le_refl _) _⟩
  · rw [cnt_byte]
    go_enter Tryd.func20, Tryd.ntmps20
    go_wp2
    go_ret
    exact ⟨rfl, Below.refl _ _⟩

/-- What stands for the k-th character when its code is changed by f. -/
def piece (s : ByteArray) (b : Bool) (f : Int → Int) (k : Nat) : List UInt8 :=
  if f (cod s b (pl s b k)) = cod s b (pl s b k) then (s.data.toList.drop (pl s b k)).take (wid s b (pl s b k)) else (textB (f (cod s b (pl s b k)))).data.toList
def recL (s : ByteArray) (b : Bool) (f : Int → Int) (k : Nat) : List UInt8 := (List.range k).flatMap (piece s b f)
def recB (s : ByteArray) (b : Bool) (f : Int → Int) : ByteArray := ⟨(recL s b f (cnt s b)).toArray⟩

/-- f keeps how many bytes a character has. -/
def KeepsWid (s : ByteArray) (b : Bool) (f : Int → Int) : Prop := ∀ p, p < s.size → f (cod s b p) ≠ cod s b p → (textB (f (cod s b p))).size = wid s b p
theorem piece_len (s : ByteArray) (b : Bool) (f : Int → Int) (hf : KeepsWid s b f) (k : Nat) (hk : k < cnt s b) : (piece s b f k).length = wid s b (pl s b k) := by
  have hp := (cnt_spec s b k).2 hk
  have hw := (wid_in s b _ hp).2
  unfold piece
  by_cases h : f (cod s b (pl s b k)) = cod s b (pl s b k)
  · rw [if_pos h, List.length_take, List.length_drop, ← Lib.size_eq]; omega
  · rw [if_neg h, ← Lib.size_eq]; exact hf _ hp h
theorem recL_succ (s : ByteArray) (b : Bool) (f : Int → Int) (k : Nat) : recL s b f (k + 1) = recL s b f k ++ piece s b f k := by
  simp [recL, List.range_succ]
theorem recL_len (s : ByteArray) (b : Bool) (f : Int → Int) (hf : KeepsWid s b f) : ∀ k, k ≤ cnt s b → (recL s b f k).length = pl s b k
  | 0, _ => rfl
  | k + 1, h => by rw [recL_succ, List.length_append, recL_len s b f hf k (by omega), piece_len s b f hf k (by omega), pl_succ]
/-- The row of bytes when k characters are done. -/
def rowL (s : ByteArray) (b : Bool) (f : Int → Int) (k : Nat) : List UInt8 := recL s b f k ++ s.data.toList.drop (pl s b k)
theorem rowL_len (s : ByteArray) (b : Bool) (f : Int → Int) (hf : KeepsWid s b f) (k : Nat) (h : k ≤ cnt s b) : (rowL s b f k).length = s.size := by
  have := pl_le s b k
  rw [rowL, List.length_append, recL_len s b f hf k h, List.length_drop, ← Lib.size_eq]; omega
theorem rowL_zero (s : ByteArray) (b : Bool) (f : Int → Int) : rowL s b f 0 = s.data.toList := rfl
theorem rowL_same (s : ByteArray) (b : Bool) (f : Int → Int) (k : Nat) (h : f (cod s b (pl s b k)) = cod s b (pl s b k)) : rowL s b f (k + 1) = rowL s b f k := by
  rw [rowL, rowL, recL_succ, List.append_assoc]
  congr 1
  rw [piece, if_pos h, pl_succ, ← List.drop_drop, List.take_append_drop]
theorem rowL_end (s : ByteArray) (b : Bool) (f : Int → Int) : rowL s b f (cnt s b) = recL s b f (cnt s b) := by
  rw [rowL, pl_cnt, List.drop_of_length_le (by rw [← Lib.size_eq]; exact Nat.le_refl _), List.append_nil]
theorem cod_le (s : ByteArray) (b : Bool) (i : Nat) : cod s b i ≤ 1114367 := by
  unfold cod nextZ
  split
  · exact Nat.zero_le _
  · split
    · have := get!_lt256 s (i : Int).toNat; simp only; omega
    · simp only [chS, chN]
      split
      · have := get!_lt256 s (i : Int).toNat; simp only; omega
      · have := (decodeN_lt (s.size - (i : Int).toNat) (s.get! (i : Int).toNat).toNat (s.get! ((i : Int).toNat + 1)).toNat (s.get! ((i : Int).toNat + 2)).toNat (s.get! ((i : Int).toNat + 3)).toNat).1
        omega
/-- A list with t's bytes laid over those from place p on. -/
def putL (L : List UInt8) (p : Nat) (t : List UInt8) : List UInt8 := L.take p ++ t ++ L.drop (p + t.length)
theorem putL_len (L : List UInt8) (p : Nat) (t : List UInt8) (h : p + t.length ≤ L.length) : (putL L p t).length = L.length := by
  simp only [putL, List.length_append, List.length_take, List.length_drop]; omega
theorem putL_in (L : List UInt8) (p : Nat) (t : List UInt8) (h : p + t.length ≤ L.length) (j : Nat) (hj : j < t.length) : (putL L p t).getD (p + j) 0 = t.getD j 0 := by
  simp only [putL, List.getD_eq_getElem?_getD]
  rw [List.append_assoc, List.getElem?_append_right (by rw [List.length_take]; omega), List.getElem?_append_left (by rw [List.length_take]; omega), List.length_take, show p + j - min p L.length = j by omega]
theorem putL_out (L : List UInt8) (p : Nat) (t : List UInt8) (h : p + t.length ≤ L.length) (j : Nat) (hj : j < p ∨ p + t.length ≤ j) : (putL L p t).getD j 0 = L.getD j 0 := by
  simp only [putL, List.getD_eq_getElem?_getD]
  rcases hj with hj | hj
  · rw [List.append_assoc, List.getElem?_append_left (by rw [List.length_take]; omega), List.getElem?_take, if_pos hj]
  · rw [List.getElem?_append_right (by rw [List.length_append, List.length_take]; omega), List.length_append, List.length_take, List.getElem?_drop, show p + t.length + (j - (min p L.length + t.length)) = j by omega]
/-- Behind the copy. -/
theorem rowL_put (s : ByteArray) (b : Bool) (f : Int → Int) (hf : KeepsWid s b f) (k : Nat) (hk : k < cnt s b) (h : f (cod s b (pl s b k)) ≠ cod s b (pl s b k)) :
    putL (rowL s b f k) (pl s b k) (textB (f (cod s b (pl s b k)))).data.toList = rowL s b f (k + 1) := by
  have hl := recL_len s b f hf k (by omega)
  have hp := piece_len s b f hf k hk
  have e : piece s b f k = (textB (f (cod s b (pl s b k)))).data.toList := by rw [piece, if_neg h]
  rw [← e, putL, hp, rowL, List.take_left' hl, ← List.drop_drop, List.drop_left' hl, rowL, recL_succ, pl_succ, List.drop_drop]
end Go.Proofs.YtaemijgfngdjlaaDoor
