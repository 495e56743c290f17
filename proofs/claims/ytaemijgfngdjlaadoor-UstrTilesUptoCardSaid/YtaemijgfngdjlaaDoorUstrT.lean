/- Layer 1, without walks: the characters of a string whose letters were changed. -/
import Derived.Test.YtaemijgfngdjlaaDoorUstrR
namespace Go.Proofs.YtaemijgfngdjlaaDoor
open Go.RowKit Go.Lib

/-- f changes letters alone: one of a byte to one of a byte, one of two bytes to one of two. -/
def LetMap (b : Bool) (f : Int → Int) : Prop := ∀ c : Int, f c ≠ c → (0 ≤ c ∧ c < 128 ∧ 0 ≤ f c ∧ f c < 128) ∨ (b = false ∧ 192 ≤ c ∧ c ≤ 255 ∧ 192 ≤ f c ∧ f c ≤ 255)
theorem let_fold (b : Bool) : LetMap b (foldZ · b) := fun c h => by
  simp only [foldZ] at h ⊢
  by_cases hc : capZ c b = true
  · rw [if_pos hc]
    cases b <;> simp [capZ] at hc <;> simp <;> omega
  · rw [if_neg hc] at h; exact absurd rfl h
theorem let_raise (b : Bool) : LetMap b (raiseZ · b) := fun c h => by
  simp only [raiseZ] at h ⊢
  by_cases hc : smallZ c b = true
  · rw [if_pos hc]
    cases b <;> simp [smallZ] at hc <;> simp <;> omega
  · rw [if_neg hc] at h; exact absurd rfl h
theorem LetMap.keeps {b : Bool} {f : Int → Int} (h : LetMap b f) (s : ByteArray) : KeepsWid s b f := keeps_of s b f fun c hc => by
  rcases h c hc with h1 | h1
  · exact .inl h1
  · right; exact ⟨h1.1, by omega, by omega, by omega, by omega⟩

theorem piece_tx (s : ByteArray) (b : Bool) (f : Int → Int) (hf : LetMap b f) (k : Nat) (hk : k < cnt s b) : piece s b f k = tx b (f (cod s b (pl s b k))) := by
  have hp := (cnt_spec s b k).2 hk
  unfold piece
  by_cases h : f (cod s b (pl s b k)) = cod s b (pl s b k)
  · rw [if_pos h, own_bytes s b _ hp, h]
  · rw [if_neg h]
    rcases hf _ h with ⟨h1, h2, h3, h4⟩ | ⟨rfl, _⟩
    · cases b
      · rfl
      · rw [textB_rune _ (by simp only [Lib.validRune, decide_eq_true_eq]; omega), enc_1 _ (by simp only [Lib.validRune, decide_eq_true_eq]; omega) h4]
        rfl
    · rfl
theorem recB_size (s : ByteArray) (b : Bool) (f : Int → Int) (hf : KeepsWid s b f) : (recB s b f).size = s.size := by
  rw [Lib.size_eq]
  show (recL s b f (cnt s b)).toArray.toList.length = _
  rw [List.toList_toArray, recL_len s b f hf _ (Nat.le_refl _), pl_cnt]
theorem recL_prefix (s : ByteArray) (b : Bool) (f : Int → Int) (k : Nat) : ∀ m, k ≤ m → ∃ r, recL s b f m = recL s b f k ++ r := by
  intro m hm
  obtain ⟨d, rfl⟩ := Nat.exists_eq_add_of_le hm
  induction d with
  | zero => exact ⟨[], by simp⟩
  | succ d ih =>
    obtain ⟨r, hr⟩ := ih (by omega)
    exact ⟨r ++ piece s b f (k + d), by rw [← Nat.add_assoc, recL_succ, hr, List.append_assoc]⟩
/-- The bytes of the k-th piece. -/
theorem rec_get (s : ByteArray) (b : Bool) (f : Int → Int) (hf : KeepsWid s b f) (k : Nat) (hk : k < cnt s b) (i : Nat) (hi : i < wid s b (pl s b k)) :
    (recB s b f).get! (pl s b k + i) = (piece s b f k).getD i 0 := by
  obtain ⟨r, hr⟩ := recL_prefix s b f (k + 1) (cnt s b) hk
  rw [← getD_get!']
  show (recL s b f (cnt s b)).toArray.toList.getD _ 0 = _
  have hl := recL_len s b f hf k (by omega)
  have hp := piece_len s b f hf k hk
  rw [List.toList_toArray, hr, recL_succ]
  simp only [List.getD_eq_getElem?_getD]
  rw [List.append_assoc, List.getElem?_append_right (by omega), hl, List.getElem?_append_left (by omega), show pl s b k + i - pl s b k = i by omega]
/-- A byte lies in a character. -/
theorem in_char (s : ByteArray) (b : Bool) (j : Nat) (hj : j < s.size) : ∃ k i, k < cnt s b ∧ i < wid s b (pl s b k) ∧ j = pl s b k + i := by
  have : ∀ m, j < pl s b m → ∃ k i, k < cnt s b ∧ i < wid s b (pl s b k) ∧ j = pl s b k + i := by
    intro m
    induction m with
    | zero => intro h; exact absurd h (Nat.not_lt_zero _)
    | succ m ih =>
      intro h
      by_cases hm : j < pl s b m
      · exact ih hm
      · rw [pl_succ] at h
        refine ⟨m, j - pl s b m, (cnt_spec s b m).1 ?_, by omega, by omega⟩
        by_cases hx : pl s b m < s.size
        · exact hx
        · rw [wid_out s b _ (by omega)] at h; omega
  exact this (cnt s b) (by rw [pl_cnt]; exact hj)
theorem rec_same (s : ByteArray) (b : Bool) (f : Int → Int) (hf : KeepsWid s b f) (k : Nat) (hk : k < cnt s b) (h : f (cod s b (pl s b k)) = cod s b (pl s b k)) (i : Nat) (hi : i < wid s b (pl s b k)) :
    (recB s b f).get! (pl s b k + i) = s.get! (pl s b k + i) := by
  have hp := (cnt_spec s b k).2 hk
  rw [rec_get s b f hf k hk i hi, piece, if_pos h, take_drop_get s _ _ (wid_in s b _ hp).2]
  simp [List.getD_eq_getElem?_getD, hi]
/-- A letter of one byte is that byte. -/
theorem cod_byte (s : ByteArray) (p : Nat) (hp : p < s.size) (h : cod s false p < 128) : wid s false p = 1 ∧ (s.get! p).toNat = cod s false p := by
  have hw := (cod_width s p hp).1 h
  have ho := own_bytes s false p hp
  rw [hw, take_drop_get s p 1 (by omega)] at ho
  simp only [tx, Bool.false_eq_true, if_false] at ho
  rw [textB_rune _ (by simp only [Lib.validRune, decide_eq_true_eq]; omega), enc_1 _ (by simp only [Lib.validRune, decide_eq_true_eq]; omega) (by omega)] at ho
  have h1 : s.get! (p + 0) = UInt8.ofNat (cod s false p : Int).toNat := List.head_eq_of_cons_eq ho
  rw [Nat.add_zero] at h1
  refine ⟨hw, ?_⟩
  rw [h1, UInt8.toNat_ofNat']
  omega
/-- A letter of two bytes: 195, and a byte that goes on. -/
theorem cod_two (s : ByteArray) (p : Nat) (hp : p < s.size) (h1 : 192 ≤ cod s false p) (h2 : cod s false p ≤ 255) : wid s false p = 2 ∧ (s.get! p).toNat = 195 ∧ (s.get! (p + 1)).toNat / 64 = 2 := by
  have hw := (cod_width s p hp).2 (by omega) (by omega)
  have ho := own_bytes s false p hp
  rw [hw, take_drop_get s p 2 (by have := (wid_in s false p hp).2; omega)] at ho
  simp only [tx, Bool.false_eq_true, if_false] at ho
  rw [textB_rune _ (by simp only [Lib.validRune, decide_eq_true_eq]; omega), enc_2 _ (by simp only [Lib.validRune, decide_eq_true_eq]; omega) (by omega) (by omega)] at ho
  have h3 : s.get! (p + 0) = UInt8.ofNat (192 + (cod s false p : Int) / 64).toNat := List.head_eq_of_cons_eq ho
  have h4 : s.get! (p + 1) = UInt8.ofNat (128 + (cod s false p : Int) % 64).toNat := List.head_eq_of_cons_eq (List.tail_eq_of_cons_eq ho)
  rw [Nat.add_zero] at h3
  refine ⟨hw, ?_, ?_⟩
  · rw [h3, UInt8.toNat_ofNat']; omega
  · rw [h4, UInt8.toNat_ofNat']; omega
end Go.Proofs.YtaemijgfngdjlaaDoor
