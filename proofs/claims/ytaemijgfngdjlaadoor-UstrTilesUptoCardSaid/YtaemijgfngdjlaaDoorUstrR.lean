/- Layer 1, without walks: a character's bytes are its code's; what a string is when its letters were changed. -/
import Derived.Test.YtaemijgfngdjlaaDoorUstrJ
import Derived.Test.YtaemijgfngdjlaaDoorUstrL
namespace Go.Proofs.YtaemijgfngdjlaaDoor
open Go.RowKit Go.Lib

/-- The bytes of a code: in byte mode the code is the byte. -/
def tx (b : Bool) (c : Int) : List UInt8 := if b then [UInt8.ofNat c.toNat] else (textB c).data.toList

theorem take_drop_get (s : ByteArray) (p w : Nat) (h : p + w ≤ s.size) : (s.data.toList.drop p).take w = (List.range w).map fun i => s.get! (p + i) := by
  apply List.ext_getElem?
  intro i
  by_cases hi : i < w
  · rw [List.getElem?_take, if_pos hi, List.getElem?_drop, List.getElem?_map, List.getElem?_range hi]
    show _ = some (s.get! (p + i))
    rw [← getD_get!', List.getD_eq_getElem?_getD, List.getElem?_eq_getElem (by rw [← Lib.size_eq]; omega)]
    rfl
  · rw [List.getElem?_eq_none (by rw [List.length_take]; omega), List.getElem?_eq_none (by rw [List.length_map, List.length_range]; omega)]

theorem ofNat_toNat (x : UInt8) (n : Nat) (h : n = x.toNat) : UInt8.ofNat n = x := by subst h; exact UInt8.ofNat_toNat

set_option maxHeartbeats 1000000 in
/-- A character's bytes are its code's. -/
theorem own_bytes (s : ByteArray) (b : Bool) (p : Nat) (hp : p < s.size) : (s.data.toList.drop p).take (wid s b p) = tx b (cod s b p) := by
  rw [take_drop_get s p _ (wid_in s b p hp).2]
  cases b
  · have hn : nextZ s (p : Int) false = chS s p := nextZ_in s p false hp
    have e1 : wid s false p = (chS s p).2 := by rw [← hn]; rfl
    have e2 : cod s false p = (chS s p).1 := by rw [← hn]; rfl
    rw [e1, e2]
    simp only [tx, Bool.false_eq_true, if_false]
    have hb := get!_lt256 s p
    have h1 := get!_lt256 s (p + 1)
    have h2 := get!_lt256 s (p + 2)
    have h3 := get!_lt256 s (p + 3)
    unfold chS chN
    by_cases a1 : (s.get! p).toNat < 128
    · rw [dec_one _ _ _ _ _ a1, if_neg (by simp; omega)]
      rw [textB_rune _ (by simp only [Lib.validRune, decide_eq_true_eq]; omega), enc_1 _ (by simp only [Lib.validRune, decide_eq_true_eq]; omega) (by omega)]
      show [s.get! (p + 0)] = _
      rw [Nat.add_zero, ofNat_toNat (s.get! p) _ (by omega)]
    have bad : decodeN (s.size - p) (s.get! p).toNat (s.get! (p + 1)).toNat (s.get! (p + 2)).toNat (s.get! (p + 3)).toNat = (65533, 1) →
        (List.range (if decodeN (s.size - p) (s.get! p).toNat (s.get! (p + 1)).toNat (s.get! (p + 2)).toNat (s.get! (p + 3)).toNat = (65533, 1) then (1114112 + (s.get! p).toNat, 1) else decodeN (s.size - p) (s.get! p).toNat (s.get! (p + 1)).toNat (s.get! (p + 2)).toNat (s.get! (p + 3)).toNat).2).map (fun i => s.get! (p + i)) =
        (textB ((if decodeN (s.size - p) (s.get! p).toNat (s.get! (p + 1)).toNat (s.get! (p + 2)).toNat (s.get! (p + 3)).toNat = (65533, 1) then (1114112 + (s.get! p).toNat, 1) else decodeN (s.size - p) (s.get! p).toNat (s.get! (p + 1)).toNat (s.get! (p + 2)).toNat (s.get! (p + 3)).toNat).1 : Nat)).data.toList := by
      intro hd
      rw [if_pos hd, textB_byte _ (by omega)]
      show [s.get! (p + 0)] = _
      rw [Nat.add_zero, ofNat_toNat (s.get! p) _ (by omega)]
    by_cases a2 : 194 ≤ (s.get! p).toNat ∧ (s.get! p).toNat ≤ 223
    · by_cases v : 2 ≤ s.size - p ∧ (s.get! (p + 1)).toNat / 64 = 2
      · rw [dec_two _ _ _ _ _ v.1 v.2 a2, if_neg (by simp)]
        rw [textB_rune _ (by simp only [Lib.validRune, decide_eq_true_eq]; omega), enc_2 _ (by simp only [Lib.validRune, decide_eq_true_eq]; omega) (by omega) (by omega)]
        show [s.get! (p + 0), s.get! (p + 1)] = _
        rw [Nat.add_zero, ofNat_toNat (s.get! p) _ (by omega), ofNat_toNat (s.get! (p + 1)) _ (by omega)]
      · exact bad (dec_none _ _ _ _ _ (by omega))
    by_cases a3 : 224 ≤ (s.get! p).toNat ∧ (s.get! p).toNat ≤ 239
    · by_cases v : 3 ≤ s.size - p ∧ (s.get! (p + 1)).toNat / 64 = 2 ∧ (s.get! (p + 2)).toNat / 64 = 2
      · obtain ⟨r, hr⟩ : ∃ r, r = (s.get! p).toNat % 16 * 4096 + (s.get! (p + 1)).toNat % 64 * 64 + (s.get! (p + 2)).toNat % 64 := ⟨_, rfl⟩
        have hd := dec_three _ _ _ _ (s.get! (p + 3)).toNat r v.1 v.2.1 v.2.2 a3 hr
        by_cases hx : r < 2048 ∨ 1114111 < r ∨ (55296 ≤ r ∧ r ≤ 57343)
        · exact bad (by rw [hd, if_pos hx])
        · rw [hd, if_neg hx, if_neg (by simp)]
          rw [textB_rune _ (by simp only [Lib.validRune, decide_eq_true_eq]; omega), enc_3 _ (by simp only [Lib.validRune, decide_eq_true_eq]; omega) (by omega) (by omega)]
          show [s.get! (p + 0), s.get! (p + 1), s.get! (p + 2)] = _
          rw [Nat.add_zero, ofNat_toNat (s.get! p) _ (by omega), ofNat_toNat (s.get! (p + 1)) _ (by omega), ofNat_toNat (s.get! (p + 2)) _ (by omega)]
      · exact bad (dec_none _ _ _ _ _ (by omega))
    by_cases a4 : 240 ≤ (s.get! p).toNat ∧ (s.get! p).toNat ≤ 244
    · by_cases v : 4 ≤ s.size - p ∧ (s.get! (p + 1)).toNat / 64 = 2 ∧ (s.get! (p + 2)).toNat / 64 = 2 ∧ (s.get! (p + 3)).toNat / 64 = 2
      · obtain ⟨r, hr⟩ : ∃ r, r = (s.get! p).toNat % 8 * 262144 + (s.get! (p + 1)).toNat % 64 * 4096 + (s.get! (p + 2)).toNat % 64 * 64 + (s.get! (p + 3)).toNat % 64 := ⟨_, rfl⟩
        have hd := dec_four _ _ _ _ _ r v.1 v.2.1 v.2.2.1 v.2.2.2 a4 hr
        by_cases hx : r < 65536 ∨ 1114111 < r ∨ (55296 ≤ r ∧ r ≤ 57343)
        · exact bad (by rw [hd, if_pos hx])
        · rw [hd, if_neg hx, if_neg (by simp)]
          rw [textB_rune _ (by simp only [Lib.validRune, decide_eq_true_eq]; omega), enc_4 _ (by simp only [Lib.validRune, decide_eq_true_eq]; omega) (by omega)]
          show [s.get! (p + 0), s.get! (p + 1), s.get! (p + 2), s.get! (p + 3)] = _
          rw [Nat.add_zero, ofNat_toNat (s.get! p) _ (by omega), ofNat_toNat (s.get! (p + 1)) _ (by omega), ofNat_toNat (s.get! (p + 2)) _ (by omega), ofNat_toNat (s.get! (p + 3)) _ (by omega)]
      · exact bad (dec_none _ _ _ _ _ (by omega))
    · exact bad (dec_none _ _ _ _ _ (by omega))
  · rw [wid_byte s p hp]
    have e2 : cod s true p = (s.get! p).toNat := by
      unfold cod; rw [nextZ_in s p true hp]; rfl
    rw [e2]
    simp only [tx, if_true]
    show [s.get! (p + 0)] = _
    rw [Nat.add_zero, ofNat_toNat (s.get! p) _ (by omega)]
end Go.Proofs.YtaemijgfngdjlaaDoor
