/- Contracts of layer 1: the character at a place of a string, in the program (Next) and in the definition (size, Next). -/
import Derived.Test.YtaemijgfngdjlaaDoorUstrB
import Derived.Test.YtaemijgfngdjlaaDoorShelf
import Derived.Lib.RuneCountTail
namespace Go.Proofs.YtaemijgfngdjlaaDoor
open Go.RowKit Go.Lib

def sizS (s : ByteArray) : Nat × Nat := sizN s.size (s.get! 0).toNat (s.get! 1).toNat (s.get! 2).toNat (s.get! 3).toNat

set_option maxRecDepth 100000 in
set_option maxHeartbeats 1000000 in
theorem size_any (s : ByteArray) (w : World) (h0 : 0 < s.size) (hs : s.size ≤ 9223372036854775807) :
    Calls Tryd.prog 32 #[.string s] w fun e w' => e = .returned (.tuple #[.int .i64 (sizS s).1, .int .i64 (sizS s).2]) ∧ w = w' := by
  have g0 := get!_lt s 0 h0
  have b256 := get!_lt256 s 0
  obtain ⟨R, hR⟩ : ∃ R, sizS s = R := ⟨_, rfl⟩
  rw [hR]
  unfold sizS at hR
  by_cases c1 : (s.get! 0).toNat < 128
  · rw [siz_one _ _ _ _ _ c1] at hR
    subst hR
    have c1' : (s[0].toNat : Int) < 128 := by rw [g0]; omega
    have H := Lib.hid g0; clear g0
    go_enter Tryd.func32, Tryd.ntmps32
    go_wp2
    go_ret2
    exact ⟨by rw [H.out]; rfl, rfl⟩
  by_cases c2 : (s.get! 0).toNat ≤ 193
  · rw [siz_none _ _ _ _ _ (.inl ⟨by omega, c2⟩)] at hR
    subst hR
    have c1' : 128 ≤ (s[0].toNat : Int) := by rw [g0]; omega
    have c2' : (s[0].toNat : Int) ≤ 193 := by rw [g0]; omega
    have H := Lib.hid g0; clear g0
    go_enter Tryd.func32, Tryd.ntmps32
    go_wp2
    go_ret2
    exact ⟨rfl, rfl⟩
  by_cases c3 : (s.get! 0).toNat ≤ 223
  · by_cases hl : 2 ≤ s.size
    · rw [← run2_eq _ _ _ _ _ hl ⟨by omega, c3⟩, ← runN_2] at hR
      rw [← hR]
      exact size_2 s w hl hs (by omega) c3
    · rw [siz_none _ _ _ _ _ (.inr (.inr (.inl ⟨by omega, c3, by omega⟩)))] at hR
      subst hR
      have c1' : 194 ≤ (s[0].toNat : Int) := by rw [g0]; omega
      have c2' : (s[0].toNat : Int) ≤ 223 := by rw [g0]; omega
      have hl' : (s.size : Int) < 2 := by omega
      have H := Lib.hid g0; clear g0
      go_enter Tryd.func32, Tryd.ntmps32
      go_wp2
      go_ret2
      exact ⟨rfl, rfl⟩
  by_cases c4 : (s.get! 0).toNat ≤ 239
  · by_cases hl : 3 ≤ s.size
    · rw [← run3_eq _ _ _ _ _ hl ⟨by omega, c4⟩, ← runN_3] at hR
      rw [← hR]
      exact size_3 s w hl hs (by omega) c4
    · rw [siz_none _ _ _ _ _ (.inr (.inr (.inr (.inl ⟨by omega, c4, by omega⟩))))] at hR
      subst hR
      have c1' : 224 ≤ (s[0].toNat : Int) := by rw [g0]; omega
      have c2' : (s[0].toNat : Int) ≤ 239 := by rw [g0]; omega
      have hl' : (s.size : Int) < 3 := by omega
      have H := Lib.hid g0; clear g0
      go_enter Tryd.func32, Tryd.ntmps32
      go_wp2
      go_ret2
      exact ⟨rfl, rfl⟩
  by_cases c5 : (s.get! 0).toNat ≤ 244
  · by_cases hl : 4 ≤ s.size
    · rw [← run4_eq _ _ _ _ _ hl ⟨by omega, c5⟩, ← runN_4] at hR
      rw [← hR]
      exact size_4 s w hl hs (by omega) c5
    · rw [siz_none _ _ _ _ _ (.inr (.inr (.inr (.inr ⟨by omega, c5, by omega⟩))))] at hR
      subst hR
      have c1' : 240 ≤ (s[0].toNat : Int) := by rw [g0]; omega
      have c2' : (s[0].toNat : Int) ≤ 244 := by rw [g0]; omega
      have hl' : (s.size : Int) < 4 := by omega
      have H := Lib.hid g0; clear g0
      go_enter Tryd.func32, Tryd.ntmps32
      go_wp2
      go_ret2
      exact ⟨rfl, rfl⟩
  · rw [siz_none _ _ _ _ _ (.inr (.inl ⟨by omega, by omega⟩))] at hR
    subst hR
    have c1' : 245 ≤ (s[0].toNat : Int) := by rw [g0]; omega
    have c2' : (s[0].toNat : Int) < 256 := by rw [g0]; omega
    have H := Lib.hid g0; clear g0
    go_enter Tryd.func32, Tryd.ntmps32
    go_wp2
    go_ret2
    exact ⟨rfl, rfl⟩

/-- Past the ends of the string. -/
theorem nextZ_out (s : ByteArray) (i : Int) (b : Bool) (h : i < 0 ∨ (s.size : Int) ≤ i) : nextZ s i b = (0, 0) := if_pos h
theorem nextZ_in (s : ByteArray) (i : Nat) (b : Bool) (h : i < s.size) : nextZ s (i : Int) b = if b then ((s.get! i).toNat, 1) else chS s i := by
  unfold nextZ; rw [if_neg (by omega)]; rfl

/-- The string from place i on: its own first bytes. -/
theorem sizS_tail (s : ByteArray) (i : Nat) : sizS (s.extract i s.size) = sizN (s.size - i) (s.get! i).toNat (s.get! (i + 1)).toNat (s.get! (i + 2)).toNat (s.get! (i + 3)).toNat := by
  unfold sizS
  rw [tail_get!, tail_get!, tail_get!, tail_get!, ByteArray.size_extract, Nat.min_self, Nat.add_zero]
theorem decodeGo_tail (s : ByteArray) (i : Nat) (h : i < s.size) : decodeGo (s.extract i s.size) = decodeN (s.size - i) (s.get! i).toNat (s.get! (i + 1)).toNat (s.get! (i + 2)).toNat (s.get! (i + 3)).toNat := by
  unfold decodeGo
  rw [if_neg (by rw [ByteArray.size_extract]; omega), decode_at, tail_get!, tail_get!, tail_get!, tail_get!, ByteArray.size_extract, Nat.min_self, Nat.sub_zero]
  simp only [Nat.add_zero, Nat.zero_add]
end Go.Proofs.YtaemijgfngdjlaaDoor
