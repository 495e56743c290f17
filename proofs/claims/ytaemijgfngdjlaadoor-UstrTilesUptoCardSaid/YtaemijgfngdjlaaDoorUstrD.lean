/- Contracts of layer 1: Next, in the program and in the definition. -/
import Derived.Test.YtaemijgfngdjlaaDoorUstrC
namespace Go.Proofs.YtaemijgfngdjlaaDoor
open Go.RowKit Go.Lib

theorem decodeN_lt (n b0 b1 b2 b3 : Nat) : (decodeN n b0 b1 b2 b3).1 ≤ 1114111 ∧ 1 ≤ (decodeN n b0 b1 b2 b3).2 ∧ (decodeN n b0 b1 b2 b3).2 ≤ 4 := by
  unfold decodeN
  repeat' split
  all_goals (simp only; omega)

set_option maxRecDepth 100000 in
set_option maxHeartbeats 1000000 in
theorem next_any (s : ByteArray) (i : Int) (b : Bool) (w : World) (hT : Utf8Tabs 0 1 w) (_hs : s.size ≤ 9223372036854775807) :
    Calls Tryd.prog 12 #[.string s, .int .i64 i, .bool b] w fun e w' => e = .returned (.tuple #[.int .i64 (nextZ s i b).1, .int .i64 (nextZ s i b).2]) ∧ Below w.heap.size w w' := by
  by_cases h0 : i < 0
  · rw [nextZ_out s i b (.inl h0)]
    clear hT
    go_enter Tryd.func12, Tryd.ntmps12
    go_wp2
    go_ret2
    exact ⟨rfl, Below.refl _ _⟩
  by_cases h1 : (s.size : Int) ≤ i
  · rw [nextZ_out s i b (.inr h1)]
    clear hT
    go_enter Tryd.func12, Tryd.ntmps12
    go_wp2
    go_ret2
    exact ⟨rfl, Below.refl _ _⟩
  obtain ⟨k, rfl⟩ : ∃ k : Nat, i = k := ⟨i.toNat, by omega⟩
  have hk : k < s.size := by omega
  have gk := get!_lt s k hk
  rw [nextZ_in s k b hk]
  cases b
  · have cD := Tryd.utf8_DecodeRuneInString (s.extract k s.size) w hT
    rw [decodeGo_tail s k hk] at cD
    have hd := decodeN_lt (s.size - k) (s.get! k).toNat (s.get! (k + 1)).toNat (s.get! (k + 2)).toNat (s.get! (k + 3)).toNat
    simp only [Bool.false_eq_true, if_false]
    unfold chS chN
    obtain ⟨R, hR⟩ : ∃ R, (decodeN (s.size - k) (s.get! k).toNat (s.get! (k + 1)).toNat (s.get! (k + 2)).toNat (s.get! (k + 3)).toNat).1 = R := ⟨_, rfl⟩
    obtain ⟨K, hK⟩ : ∃ K, (decodeN (s.size - k) (s.get! k).toNat (s.get! (k + 1)).toNat (s.get! (k + 2)).toNat (s.get! (k + 3)).toNat).2 = K := ⟨_, rfl⟩
    have hRK : decodeN (s.size - k) (s.get! k).toNat (s.get! (k + 1)).toNat (s.get! (k + 2)).toNat (s.get! (k + 3)).toNat = (R, K) := by rw [← hR, ← hK]
    rw [hRK] at cD hd ⊢
    simp only at hd
    obtain ⟨hd1, hd2, hd3⟩ := hd
    clear hR hK hRK hT
    have hb := get!_lt256 s k
    rw [← gk] at hb ⊢
    have GK := Lib.hid gk; clear gk
    have CD := Lib.hid cD; clear cD
    by_cases hr : R = 65533
    · by_cases hK1 : K = 1
      · subst hr; subst hK1
        rw [if_pos rfl]
        go_enter Tryd.func12, Tryd.ntmps12
        go_wp2_with (go_at_call 31; refine CD.out.mono ?_; rintro e w' ⟨rfl, hb⟩)
        go_ret2
        exact ⟨by simp, hb⟩
      · rw [if_neg (by simp; omega)]
        subst hr
        have hK1' : ((K : Int) == 1) = false := by simp; omega
        go_enter Tryd.func12, Tryd.ntmps12
        go_wp2_with (go_at_call 31; refine CD.out.mono ?_; rintro e w' ⟨rfl, hb⟩)
        go_ret2
        exact ⟨rfl, hb⟩
    · rw [if_neg (by simp; omega)]
      have hr' : ((R : Int) == 65533) = false := by simp; omega
      go_enter Tryd.func12, Tryd.ntmps12
      go_wp2_with (go_at_call 31; refine CD.out.mono ?_; rintro e w' ⟨rfl, hb⟩)
      go_ret2
      exact ⟨rfl, hb⟩
  · simp only [if_true]
    have hb := get!_lt256 s k
    rw [← gk] at hb ⊢
    have GK := Lib.hid gk; clear gk hT
    go_enter Tryd.func12, Tryd.ntmps12
    go_wp2
    go_ret2
    exact ⟨by simp, Below.refl _ _⟩

theorem chN_siz (n b0 b1 b2 b3 : Nat) : chN n b0 b1 b2 b3 = if (sizN n b0 b1 b2 b3).1 = 0 then (1114112 + b0, 1) else ((sizN n b0 b1 b2 b3).2, (sizN n b0 b1 b2 b3).1) := by
  by_cases h : decodeN n b0 b1 b2 b3 = (65533, 1)
  · rw [if_pos ((siz_ch _ _ _ _ _).2 h), chN, if_pos h]
  · rw [if_neg (fun e => h ((siz_ch _ _ _ _ _).1 e)), chN, if_neg h, sizN, if_neg h]
theorem sizN_lt (n b0 b1 b2 b3 : Nat) : (sizN n b0 b1 b2 b3).1 ≤ 4 ∧ (sizN n b0 b1 b2 b3).2 ≤ 1114111 := by
  have := decodeN_lt n b0 b1 b2 b3
  unfold sizN
  split <;> simp only <;> omega

set_option maxRecDepth 100000 in
set_option maxHeartbeats 1000000 in
theorem refNext_any (s : ByteArray) (i : Int) (b : Bool) (w : World) (_hs : s.size ≤ 9223372036854775807) :
    Calls Tryd.prog 13 #[.string s, .int .i64 i, .bool b] w fun e w' => e = .returned (.tuple #[.int .i64 (nextZ s i b).1, .int .i64 (nextZ s i b).2]) ∧ w = w' := by
  by_cases h0 : i < 0
  · rw [nextZ_out s i b (.inl h0)]
    go_enter Tryd.func13, Tryd.ntmps13
    go_wp2
    go_ret2
    exact ⟨rfl, rfl⟩
  by_cases h1 : (s.size : Int) ≤ i
  · rw [nextZ_out s i b (.inr h1)]
    go_enter Tryd.func13, Tryd.ntmps13
    go_wp2
    go_ret2
    exact ⟨rfl, rfl⟩
  obtain ⟨k, rfl⟩ : ∃ k : Nat, i = k := ⟨i.toNat, by omega⟩
  have hk : k < s.size := by omega
  have gk := get!_lt s k hk
  rw [nextZ_in s k b hk]
  cases b
  · have cD := size_any (s.extract k s.size) w (by rw [ByteArray.size_extract]; omega) (by rw [ByteArray.size_extract]; omega)
    rw [sizS_tail s k] at cD
    simp only [Bool.false_eq_true, if_false]
    unfold chS
    rw [chN_siz]
    have hd := sizN_lt (s.size - k) (s.get! k).toNat (s.get! (k + 1)).toNat (s.get! (k + 2)).toNat (s.get! (k + 3)).toNat
    obtain ⟨q, hq⟩ : ∃ q, sizN (s.size - k) (s.get! k).toNat (s.get! (k + 1)).toNat (s.get! (k + 2)).toNat (s.get! (k + 3)).toNat = q := ⟨_, rfl⟩
    rw [hq] at cD hd ⊢
    clear hq
    obtain ⟨K, R⟩ := q
    simp only at cD hd ⊢
    obtain ⟨hd1, hd2⟩ := hd
    have hb := get!_lt256 s k
    rw [← gk] at hb ⊢
    have GK := Lib.hid gk; clear gk
    have CD := Lib.hid cD; clear cD
    by_cases hr : K = 0
    · subst hr
      rw [if_pos rfl]
      go_enter Tryd.func13, Tryd.ntmps13
      go_wp2_with (go_at_call 32; refine CD.out.mono ?_; rintro e w' ⟨rfl, rfl⟩)
      go_ret2
      exact ⟨by simp, rfl⟩
    · rw [if_neg hr]
      have hr' : ((K : Int) == 0) = false := by simp; omega
      go_enter Tryd.func13, Tryd.ntmps13
      go_wp2_with (go_at_call 32; refine CD.out.mono ?_; rintro e w' ⟨rfl, rfl⟩)
      go_ret2
      exact ⟨rfl, rfl⟩
  · simp only [if_true]
    have hb := get!_lt256 s k
    rw [← gk] at hb ⊢
    have GK := Lib.hid gk; clear gk
    go_enter Tryd.func13, Tryd.ntmps13
    go_wp2
    go_ret2
    exact ⟨by simp, rfl⟩
end Go.Proofs.YtaemijgfngdjlaaDoor
