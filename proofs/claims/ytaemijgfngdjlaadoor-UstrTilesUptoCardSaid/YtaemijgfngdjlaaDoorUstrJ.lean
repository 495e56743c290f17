/- Contracts of layer 1: Lower, Upper. -/
import Derived.Test.YtaemijgfngdjlaaDoorUstrI
namespace Go.Proofs.YtaemijgfngdjlaaDoor
open Go.RowKit Go.Lib Go.Shelf

theorem dec_width (n b0 b1 b2 b3 : Nat) : ((decodeN n b0 b1 b2 b3).2 = 1 → (decodeN n b0 b1 b2 b3).1 < 128 ∨ (decodeN n b0 b1 b2 b3).1 = 65533) ∧ ((decodeN n b0 b1 b2 b3).2 = 2 → 128 ≤ (decodeN n b0 b1 b2 b3).1) ∧ (3 ≤ (decodeN n b0 b1 b2 b3).2 → 2048 ≤ (decodeN n b0 b1 b2 b3).1) := by
  unfold decodeN
  repeat' split
  all_goals (refine ⟨fun h => ?_, fun h => ?_, fun h => ?_⟩ <;> dsimp only at h ⊢ <;> omega)
/-- A code below 128 takes one byte, one from 128 to 2047 two. -/
theorem cod_width (s : ByteArray) (p : Nat) (h : p < s.size) : (cod s false p < 128 → wid s false p = 1) ∧ (128 ≤ cod s false p → cod s false p < 2048 → wid s false p = 2) := by
  have hw := dec_width (s.size - p) (s.get! p).toNat (s.get! (p + 1)).toNat (s.get! (p + 2)).toNat (s.get! (p + 3)).toNat
  have h4 := decodeN_lt (s.size - p) (s.get! p).toNat (s.get! (p + 1)).toNat (s.get! (p + 2)).toNat (s.get! (p + 3)).toNat
  rw [wid_char s p h]
  have hc : cod s false p = (chN (s.size - p) (s.get! p).toNat (s.get! (p + 1)).toNat (s.get! (p + 2)).toNat (s.get! (p + 3)).toNat).1 := by
    unfold cod; rw [nextZ_in s p false h]; rfl
  rw [hc, chN]
  split
  · rename_i he
    rw [he]; simp only; omega
  · rename_i he
    have he' : ¬ ((decodeN (s.size - p) (s.get! p).toNat (s.get! (p + 1)).toNat (s.get! (p + 2)).toNat (s.get! (p + 3)).toNat).1 = 65533 ∧ (decodeN (s.size - p) (s.get! p).toNat (s.get! (p + 1)).toNat (s.get! (p + 2)).toNat (s.get! (p + 3)).toNat).2 = 1) := fun h => he (Prod.ext h.1 h.2)
    omega
theorem textB_size (c : Int) (h0 : 0 ≤ c) (h : c < 2048) : (textB c).size = if c < 128 then 1 else 2 := by
  have hv : Lib.validRune c = true := by simp only [Lib.validRune, decide_eq_true_eq]; omega
  rw [textB_rune c hv]
  by_cases h1 : c < 128
  · rw [if_pos h1, enc_1 c hv h1]; rfl
  · rw [if_neg h1, enc_2 c hv (by omega) h]; rfl
theorem keeps_of (s : ByteArray) (b : Bool) (f : Int → Int) (h : ∀ c : Int, f c ≠ c → (0 ≤ c ∧ c < 128 ∧ 0 ≤ f c ∧ f c < 128) ∨ (b = false ∧ 128 ≤ c ∧ c < 2048 ∧ 128 ≤ f c ∧ f c < 2048)) : KeepsWid s b f := by
  intro p hp hne
  rcases h _ hne with ⟨h1, h2, h3, h4⟩ | ⟨rfl, h1, h2, h3, h4⟩
  · rw [textB_size _ h3 (by omega), if_pos h4]
    cases b
    · exact ((cod_width s p hp).1 (by omega)).symm
    · exact (wid_byte s p hp).symm
  · rw [textB_size _ (by omega) h4, if_neg (by omega)]
    exact ((cod_width s p hp).2 (by omega) (by omega)).symm
theorem keeps_fold (s : ByteArray) (b : Bool) : KeepsWid s b (foldZ · b) := keeps_of s b _ fun c h => by
  simp only [foldZ] at h ⊢
  by_cases hc : capZ c b = true
  · rw [if_pos hc]
    cases b <;> simp [capZ] at hc <;> simp <;> omega
  · rw [if_neg hc] at h; exact absurd rfl h
theorem keeps_raise (s : ByteArray) (b : Bool) : KeepsWid s b (raiseZ · b) := keeps_of s b _ fun c h => by
  simp only [raiseZ] at h ⊢
  by_cases hc : smallZ c b = true
  · rw [if_pos hc]
    cases b <;> simp [smallZ] at hc <;> simp <;> omega
  · rw [if_neg hc] at h; exact absurd rfl h

set_option maxHeartbeats 400000 in
theorem lower_any (s : ByteArray) (b : Bool) (w : World) (hs : s.size ≤ 140737488355328) (hT : Utf8Tabs 0 1 w) :
    Calls Tryd.prog 26 #[.string s, .bool b] w fun e w' => e = .returned (.string (recB s b (foldZ · b))) ∧ Below w.heap.size w w' := by
  have cR := callsIn_wide.1 (recLow_in s b w hs hT (keeps_fold s b))
  have CR := Lib.hid cR; clear cR hT
  go_enter Tryd.func26, Tryd.ntmps26
  go_wp2_with (go_at_call 41; refine CR.out.mono ?_; rintro e w' ⟨rfl, hb⟩)
  go_ret
  exact ⟨rfl, hb⟩
set_option maxHeartbeats 400000 in
theorem upper_any (s : ByteArray) (b : Bool) (w : World) (hs : s.size ≤ 140737488355328) (hT : Utf8Tabs 0 1 w) :
    Calls Tryd.prog 28 #[.string s, .bool b] w fun e w' => e = .returned (.string (recB s b (raiseZ · b))) ∧ Below w.heap.size w w' := by
  have cR := callsIn_wide.1 (recUp_in s b w hs hT (keeps_raise s b))
  have CR := Lib.hid cR; clear cR hT
  go_enter Tryd.func28, Tryd.ntmps28
  go_wp2_with (go_at_call 41; refine CR.out.mono ?_; rintro e w' ⟨rfl, hb⟩)
  go_ret
  exact ⟨rfl, hb⟩
end Go.Proofs.YtaemijgfngdjlaaDoor
