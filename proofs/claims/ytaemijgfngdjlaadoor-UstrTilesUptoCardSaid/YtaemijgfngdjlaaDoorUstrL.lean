/- Plain arithmetic of layer 1: what a character is hangs on its own bytes, and on none of those behind that goes on with it. -/
import Derived.Test.YtaemijgfngdjlaaDoorUstrP
namespace Go.Proofs.YtaemijgfngdjlaaDoor
open Go.Lib

/-- Decoding at two places that begin alike. -/
theorem dec_local (n n' b0 b1 b2 b3 c1 c2 c3 : Nat) (hb0 : b0 < 256)
    (h1 : 1 < n' ∧ c1 / 64 = 2 → 1 < n ∧ b1 = c1) (h2 : (1 < n' ∧ c1 / 64 = 2) ∧ (2 < n' ∧ c2 / 64 = 2) → 2 < n ∧ b2 = c2) (h3 : (1 < n' ∧ c1 / 64 = 2) ∧ (2 < n' ∧ c2 / 64 = 2) ∧ (3 < n' ∧ c3 / 64 = 2) → 3 < n ∧ b3 = c3)
    (e1 : 2 ≤ (decodeN n b0 b1 b2 b3).2 → 1 < n' ∧ c1 = b1) (e2 : 3 ≤ (decodeN n b0 b1 b2 b3).2 → 2 < n' ∧ c2 = b2) (e3 : 4 ≤ (decodeN n b0 b1 b2 b3).2 → 3 < n' ∧ c3 = b3) :
    decodeN n' b0 c1 c2 c3 = decodeN n b0 b1 b2 b3 := by
  by_cases a1 : b0 < 128
  · rw [dec_one _ _ _ _ _ a1, dec_one _ _ _ _ _ a1]
  by_cases a2 : 194 ≤ b0 ∧ b0 ≤ 223
  · by_cases v : 2 ≤ n ∧ b1 / 64 = 2
    · have hd := dec_two n b0 b1 b2 b3 v.1 v.2 a2
      rw [hd] at e1 ⊢
      obtain ⟨x1, rfl⟩ := e1 (Nat.le_refl _)
      exact dec_two n' b0 c1 c2 c3 x1 v.2 a2
    · rw [dec_none n b0 b1 b2 b3 (by omega), dec_none n' b0 c1 c2 c3 (by omega)]
  by_cases a3 : 224 ≤ b0 ∧ b0 ≤ 239
  · by_cases v : 3 ≤ n ∧ b1 / 64 = 2 ∧ b2 / 64 = 2
    · obtain ⟨r, hr⟩ : ∃ r, r = b0 % 16 * 4096 + b1 % 64 * 64 + b2 % 64 := ⟨_, rfl⟩
      have hd := dec_three n b0 b1 b2 b3 r v.1 v.2.1 v.2.2 a3 hr
      by_cases hx : r < 2048 ∨ 1114111 < r ∨ (55296 ≤ r ∧ r ≤ 57343)
      · rw [if_pos hx] at hd
        rw [hd]
        by_cases v' : 3 ≤ n' ∧ c1 / 64 = 2 ∧ c2 / 64 = 2
        · obtain ⟨_, rfl⟩ := h1 ⟨by omega, v'.2.1⟩
          obtain ⟨_, rfl⟩ := h2 ⟨⟨by omega, v'.2.1⟩, by omega, v'.2.2⟩
          rw [dec_three n' b0 b1 b2 c3 r v'.1 v.2.1 v.2.2 a3 hr, if_pos hx]
        · rw [dec_none n' b0 c1 c2 c3 (by omega)]
      · rw [if_neg hx] at hd
        rw [hd] at e1 e2 ⊢
        obtain ⟨_, rfl⟩ := e1 (show 2 ≤ 3 by decide)
        obtain ⟨x2, rfl⟩ := e2 (show 3 ≤ 3 by decide)
        rw [dec_three n' b0 c1 c2 c3 r x2 v.2.1 v.2.2 a3 hr, if_neg hx]
    · rw [dec_none n b0 b1 b2 b3 (by omega), dec_none n' b0 c1 c2 c3 (by omega)]
  by_cases a4 : 240 ≤ b0 ∧ b0 ≤ 244
  · by_cases v : 4 ≤ n ∧ b1 / 64 = 2 ∧ b2 / 64 = 2 ∧ b3 / 64 = 2
    · obtain ⟨r, hr⟩ : ∃ r, r = b0 % 8 * 262144 + b1 % 64 * 4096 + b2 % 64 * 64 + b3 % 64 := ⟨_, rfl⟩
      have hd := dec_four n b0 b1 b2 b3 r v.1 v.2.1 v.2.2.1 v.2.2.2 a4 hr
      by_cases hx : r < 65536 ∨ 1114111 < r ∨ (55296 ≤ r ∧ r ≤ 57343)
      · rw [if_pos hx] at hd
        rw [hd]
        by_cases v' : 4 ≤ n' ∧ c1 / 64 = 2 ∧ c2 / 64 = 2 ∧ c3 / 64 = 2
        · obtain ⟨_, rfl⟩ := h1 ⟨by omega, v'.2.1⟩
          obtain ⟨_, rfl⟩ := h2 ⟨⟨by omega, v'.2.1⟩, by omega, v'.2.2.1⟩
          obtain ⟨_, rfl⟩ := h3 ⟨⟨by omega, v'.2.1⟩, ⟨by omega, v'.2.2.1⟩, by omega, v'.2.2.2⟩
          rw [dec_four n' b0 b1 b2 b3 r v'.1 v.2.1 v.2.2.1 v.2.2.2 a4 hr, if_pos hx]
        · rw [dec_none n' b0 c1 c2 c3 (by omega)]
      · rw [if_neg hx] at hd
        rw [hd] at e1 e2 e3 ⊢
        obtain ⟨_, rfl⟩ := e1 (show 2 ≤ 4 by decide)
        obtain ⟨_, rfl⟩ := e2 (show 3 ≤ 4 by decide)
        obtain ⟨x3, rfl⟩ := e3 (show 4 ≤ 4 by decide)
        rw [dec_four n' b0 c1 c2 c3 r x3 v.2.1 v.2.2.1 v.2.2.2 a4 hr, if_neg hx]
    · rw [dec_none n b0 b1 b2 b3 (by omega), dec_none n' b0 c1 c2 c3 (by omega)]
  · rw [dec_none n b0 b1 b2 b3 (by omega), dec_none n' b0 c1 c2 c3 (by omega)]

/-- Two strings at two places: the same character. -/
theorem next_local (s t : ByteArray) (p q : Nat) (hp : p < s.size) (hq : q < t.size) (h0 : t.get! q = s.get! p)
    (hc : ∀ i, i < 3 → (∀ j, j ≤ i → q + 1 + j < t.size ∧ (t.get! (q + 1 + j)).toNat / 64 = 2) → p + 1 + i < s.size ∧ s.get! (p + 1 + i) = t.get! (q + 1 + i))
    (hw : ∀ i, i + 1 < wid s false p → q + 1 + i < t.size ∧ t.get! (q + 1 + i) = s.get! (p + 1 + i)) :
    nextZ t (q : Int) false = nextZ s (p : Int) false := by
  have e : decodeN (t.size - q) (t.get! q).toNat (t.get! (q + 1)).toNat (t.get! (q + 2)).toNat (t.get! (q + 3)).toNat = decodeN (s.size - p) (s.get! p).toNat (s.get! (p + 1)).toNat (s.get! (p + 2)).toNat (s.get! (p + 3)).toNat := by
    rw [h0]
    rw [wid_char s p hp] at hw
    refine dec_local _ _ _ _ _ _ _ _ _ (get!_lt256 s p) ?_ ?_ ?_ ?_ ?_ ?_
    · rintro ⟨x1, x2⟩
      obtain ⟨a, b⟩ := hc 0 (by decide) (fun j hj => by obtain rfl : j = 0 := (by omega); exact ⟨by omega, x2⟩)
      exact ⟨by omega, congrArg UInt8.toNat b⟩
    · rintro ⟨⟨x1, x2⟩, x3, x4⟩
      obtain ⟨a, b⟩ := hc 1 (by decide) (fun j hj => by
        rcases (by omega : j = 0 ∨ j = 1) with rfl | rfl
        · exact ⟨by omega, x2⟩
        · exact ⟨by omega, x4⟩)
      exact ⟨by omega, congrArg UInt8.toNat b⟩
    · rintro ⟨⟨x1, x2⟩, ⟨x3, x4⟩, x5, x6⟩
      obtain ⟨a, b⟩ := hc 2 (by decide) (fun j hj => by
        rcases (by omega : j = 0 ∨ j = 1 ∨ j = 2) with rfl | rfl | rfl
        · exact ⟨by omega, x2⟩
        · exact ⟨by omega, x4⟩
        · exact ⟨by omega, x6⟩)
      exact ⟨by omega, congrArg UInt8.toNat b⟩
    · intro h
      obtain ⟨a, b⟩ := hw 0 (by omega)
      exact ⟨by omega, congrArg UInt8.toNat b⟩
    · intro h
      obtain ⟨a, b⟩ := hw 1 (by omega)
      exact ⟨by omega, congrArg UInt8.toNat b⟩
    · intro h
      obtain ⟨a, b⟩ := hw 2 (by omega)
      exact ⟨by omega, congrArg UInt8.toNat b⟩
  have z : ∀ (u : ByteArray) (j : Nat), j < u.size → nextZ u (j : Int) false = chS u j := fun u j h => by
    unfold nextZ; rw [if_neg (by omega)]; rfl
  rw [z t q hq, z s p hp]
  unfold chS chN
  rw [e, h0]
end Go.Proofs.YtaemijgfngdjlaaDoor
