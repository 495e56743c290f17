/- Layer 1, without walks: the end of a string, cut ahead of a character; the two parts of a string. -/
import Derived.Test.YtaemijgfngdjlaaDoorUstrIx
import Derived.Test.YtaemijgfngdjlaaDoorUstrSb
namespace Go.Proofs.YtaemijgfngdjlaaDoor
open Go.RowKit Go.Lib

theorem drop_size (s : ByteArray) (p : Nat) : (s.extract p s.size).size = s.size - p := by rw [ByteArray.size_extract]; omega
theorem drop_get! (s : ByteArray) (p i : Nat) : (s.extract p s.size).get! i = s.get! (p + i) := by
  rw [← getD_get!', ← getD_get!', Lib.extract_data]
  simp only [List.getD_eq_getElem?_getD]
  rw [List.take_of_length_le (by rw [List.length_drop, ← Lib.size_eq]; exact Nat.le_refl _), List.getElem?_drop]
theorem suffix_next (s : ByteArray) (b : Bool) (p i : Nat) (h : p + i < s.size) : nextZ (s.extract p s.size) (i : Nat) b = nextZ s ((p + i : Nat) : Int) b := by
  have hz := drop_size s p
  cases b
  · refine next_local s _ (p + i) i h (by omega) (drop_get! s p i) (fun j hj hc => ?_) (fun j hj => ?_)
    · have h1 := (hc j (Nat.le_refl _)).1
      exact ⟨by omega, by rw [drop_get!]; congr 1; omega⟩
    · have h2 := (wid_in s false (p + i) h).2
      exact ⟨by omega, by rw [drop_get!]; congr 1; omega⟩
  · have e1 := nextZ_in (s.extract p s.size) i true (by omega)
    have e2 := nextZ_in s (p + i) true h
    rw [e1, e2, if_pos rfl, if_pos rfl, drop_get!]
theorem suffix_pl (s : ByteArray) (b : Bool) (m : Nat) : ∀ j, pl s b m + pl (s.extract (pl s b m) s.size) b j = pl s b (m + j)
  | 0 => rfl
  | j + 1 => by
    have ih := suffix_pl s b m j
    have hz := drop_size s (pl s b m)
    have hle := pl_le s b m
    rw [← Nat.add_assoc, pl_succ, pl_succ, ← Nat.add_assoc, ih]
    congr 1
    by_cases h : pl s b (m + j) < s.size
    · show (nextZ _ _ _).2 = (nextZ _ _ _).2
      rw [suffix_next s b _ _ (by omega), ih]
    · rw [wid_out s b _ (by omega), wid_out _ b _ (by omega)]
/-- The end of a string, cut ahead of the character number m, has the other characters. -/
theorem suffix_cnt (s : ByteArray) (b : Bool) (m : Nat) (hm : m ≤ cnt s b) : cnt (s.extract (pl s b m) s.size) b = cnt s b - m := by
  have hz := drop_size s (pl s b m)
  have hle := pl_le s b m
  refine cnt_unique _ b _ ?_ (fun j hj => ?_)
  · have := suffix_pl s b m (cnt s b - m)
    rw [show m + (cnt s b - m) = cnt s b by omega, pl_cnt] at this
    omega
  · have := suffix_pl s b m j
    have h2 := (cnt_spec s b (m + j)).2 (by omega)
    omega
theorem tile_a (s : ByteArray) (b : Bool) (m : Nat) (hm : m ≤ cnt s b) : subB s b 1 ((m : Int) + 1) = s.extract 0 (pl s b m) := by
  unfold subB
  by_cases h : m = 0
  · subst h
    rw [if_pos (by omega)]
    apply ByteArray.ext
    apply Array.ext'
    rw [Lib.extract_data]
    simp [pl]
  · rw [if_neg (by omega), show (max (1 : Int) 1 - 1).toNat = 0 by omega, show (min ((m : Int) + 1) ((cnt s b : Int) + 1) - 1).toNat = m by omega]
    rfl
theorem tile_b (s : ByteArray) (b : Bool) (m : Nat) (hm : m ≤ cnt s b) : subB s b ((m : Int) + 1) ((cnt s b : Int) + 1) = s.extract (pl s b m) s.size := by
  unfold subB
  by_cases h : m = cnt s b
  · rw [if_pos (by omega), h, pl_cnt]
    apply ByteArray.ext
    apply Array.ext'
    rw [Lib.extract_data]
    simp
  · rw [if_neg (by omega), show (max ((m : Int) + 1) 1 - 1).toNat = m by omega, show (min ((cnt s b : Int) + 1) ((cnt s b : Int) + 1) - 1).toNat = cnt s b by omega, pl_cnt]
theorem tile_cat (s : ByteArray) (p : Nat) (h : p ≤ s.size) : (s.extract 0 p ++ s.extract p s.size).toList = s.toList := by
  rw [Lib.toList_data, Lib.toList_data, ByteArray.data_append, Array.toList_append, Lib.extract_data, Lib.extract_data, List.drop_zero, Nat.sub_zero]
  rw [List.take_of_length_le (l := List.drop p _) (by rw [List.length_drop, ← Lib.size_eq]; exact Nat.le_refl _), List.take_append_drop]
theorem own_text (s : ByteArray) (p : Nat) (h : p < s.size) : (textB (cod s false p)).toList = (s.extract p (p + wid s false p)).toList := by
  have ho := own_bytes s false p h
  simp only [tx, Bool.false_eq_true, if_false] at ho
  rw [Lib.toList_data, Lib.toList_data, Lib.extract_data, Nat.add_sub_cancel_left]
  exact ho.symm
theorem idx_tile {s : ByteArray} {b : Bool} {m r : Nat} (hm : m < cnt s b) (h : IsIdx s (s.extract (pl s b m) s.size) b r) : 1 ≤ r ∧ r ≤ m + 1 := by
  have hz := drop_size s (pl s b m)
  have hp := (cnt_spec s b m).2 hm
  have hst : Stands s (s.extract (pl s b m) s.size) (pl s b m) := by
    refine ⟨by omega, ?_⟩
    rw [Lib.extract_data, hz]
  rcases h with ⟨rfl, h | h⟩ | ⟨_, k, rfl, hk, _, hn⟩
  · omega
  · exact absurd hst (h m hm)
  · refine ⟨by omega, ?_⟩
    rcases Nat.lt_or_ge m k with h1 | h1
    · exact absurd hst (hn m h1)
    · omega
theorem idx_end {s t : ByteArray} {b : Bool} {r : Nat} (ht : t.size = 0) (h : IsIdx s t b r) : r = 0 := by
  rcases h with ⟨rfl, _⟩ | ⟨h0, _⟩
  · rfl
  · omega
end Go.Proofs.YtaemijgfngdjlaaDoor
