/- Plain arithmetic of layer 1: the character at a place of a string. -/
import Derived.Lib.DecodeN
import Derived.Shelf.Unicode.DecodeSlow
namespace Go.Proofs.YtaemijgfngdjlaaDoor
open Go.Lib

/-- The character at byte i of s: its code and how many bytes it has. -/
def chN (n b0 b1 b2 b3 : Nat) : Nat × Nat := if decodeN n b0 b1 b2 b3 = (65533, 1) then (1114112 + b0, 1) else decodeN n b0 b1 b2 b3
def sizN (n b0 b1 b2 b3 : Nat) : Nat × Nat := if decodeN n b0 b1 b2 b3 = (65533, 1) then (0, 0) else ((decodeN n b0 b1 b2 b3).2, (decodeN n b0 b1 b2 b3).1)
def chS (s : ByteArray) (i : Nat) : Nat × Nat := chN (s.size - i) (s.get! i).toNat (s.get! (i + 1)).toNat (s.get! (i + 2)).toNat (s.get! (i + 3)).toNat

/-- What Next answers. -/
def nextZ (s : ByteArray) (i : Int) (b : Bool) : Nat × Nat :=
  if i < 0 ∨ (s.size : Int) ≤ i then (0, 0) else if b then ((s.get! i.toNat).toNat, 1) else chS s i.toNat


theorem get!_lt (s : ByteArray) (i : Nat) (h : i < s.size) : s[i] = s.get! i := (Utf8W.get!_of_lt s i h).symm

/-- What 'size' has put together out of the k bytes behind the first. -/
def accN (s : ByteArray) (r0 : Nat) : Nat → Nat
  | 0 => r0
  | k + 1 => 64 * accN s r0 k + (s.get! (k + 1)).toNat - 128
def contN (b : Nat) : Bool := decide (128 ≤ b ∧ b ≤ 191)
/-- What 'size' answers behind its loop. -/
def outN (n r least : Nat) : Nat × Nat := if r < least ∨ 1114111 < r ∨ (55296 ≤ r ∧ r ≤ 57343) then (0, 0) else (n, r)
def runN (s : ByteArray) (n r0 least : Nat) : Nat × Nat :=
  if (List.range (n - 1)).all (fun k => contN (s.get! (k + 1)).toNat) then outN n (accN s r0 (n - 1)) least else (0, 0)
theorem get!_lt256 (s : ByteArray) (i : Nat) : (s.get! i).toNat < 256 := by
  have := UInt8.toNat_lt (s.get! i)
  omega
theorem accN_lt (s : ByteArray) (r0 m : Nat) (h : r0 < m) : ∀ k, accN s r0 k < m * 64 ^ k ∨ ∃ j, j < k ∧ contN (s.get! (j + 1)).toNat = false
  | 0 => .inl (by show r0 < m * 64 ^ 0; rw [Nat.pow_zero, Nat.mul_one]; exact h)
  | k + 1 => by
    rcases accN_lt s r0 m h k with hk | ⟨j, hj, hc⟩
    · by_cases hc : contN (s.get! (k + 1)).toNat = true
      · left
        have h2 := of_decide_eq_true hc
        show 64 * accN s r0 k + (s.get! (k + 1)).toNat - 128 < m * 64 ^ (k + 1)
        obtain ⟨M, hM⟩ : ∃ M, m * 64 ^ k = M := ⟨_, rfl⟩
        rw [Nat.pow_succ, ← Nat.mul_assoc, hM]
        rw [hM] at hk
        omega
      · right; exact ⟨k, by omega, by simpa using hc⟩
    · right; exact ⟨j, by omega, hc⟩
theorem accN_bd (s : ByteArray) (r0 m k : Nat) (h : r0 < m) (hall : ∀ j, j < k → contN (s.get! (j + 1)).toNat = true) : accN s r0 k < m * 64 ^ k := by
  rcases accN_lt s r0 m h k with hk | ⟨j, hj, hc⟩
  · exact hk
  · rw [hall j hj] at hc; cases hc
theorem runN_no (s : ByteArray) (n r0 least k : Nat) (hk : k + 1 < n) (hc : contN (s.get! (k + 1)).toNat = false) : runN s n r0 least = (0, 0) := by
  unfold runN
  rw [if_neg]
  intro h
  have := List.all_eq_true.1 h k (by simp; omega)
  rw [hc] at this; cases this
theorem runN_yes (s : ByteArray) (n r0 least k : Nat) (hk : k + 1 = n) (hall : ∀ j, j < k → contN (s.get! (j + 1)).toNat = true) : runN s n r0 least = outN n (accN s r0 k) least := by
  obtain rfl : k = n - 1 := by omega
  unfold runN
  rw [if_pos]
  rw [List.all_eq_true]
  intro x hx
  exact hall x (by simpa using hx)

theorem outN_no (n r least : Nat) (h : r < least ∨ 1114111 < r ∨ (55296 ≤ r ∧ r ≤ 57343)) : outN n r least = (0, 0) := if_pos h
theorem outN_yes (n r least : Nat) (h : ¬ (r < least ∨ 1114111 < r ∨ (55296 ≤ r ∧ r ≤ 57343))) : outN n r least = (n, r) := if_neg h

/-! What 'size' reckons is what the library decodes. -/
theorem contN_iff (b : Nat) (h : b < 256) : contN b = true ↔ b / 64 = 2 := by
  simp only [contN, decide_eq_true_eq]; omega
def run2 (b0 b1 : Nat) : Nat × Nat := if b1 / 64 = 2 then outN 2 (64 * (b0 % 32) + b1 - 128) 128 else (0, 0)
def run3 (b0 b1 b2 : Nat) : Nat × Nat := if b1 / 64 = 2 ∧ b2 / 64 = 2 then outN 3 (64 * (64 * (b0 % 16) + b1 - 128) + b2 - 128) 2048 else (0, 0)
def run4 (b0 b1 b2 b3 : Nat) : Nat × Nat := if b1 / 64 = 2 ∧ b2 / 64 = 2 ∧ b3 / 64 = 2 then outN 4 (64 * (64 * (64 * (b0 % 8) + b1 - 128) + b2 - 128) + b3 - 128) 65536 else (0, 0)
theorem runN_2 (s : ByteArray) (b0 : Nat) : runN s 2 (b0 % 32) 128 = run2 b0 (s.get! 1).toNat := by
  unfold runN run2
  simp only [show List.range (2 - 1) = [0] from rfl, List.all_cons, List.all_nil, Bool.and_true, Nat.zero_add, contN_iff _ (get!_lt256 s 1)]
  rfl
theorem runN_3 (s : ByteArray) (b0 : Nat) : runN s 3 (b0 % 16) 2048 = run3 b0 (s.get! 1).toNat (s.get! 2).toNat := by
  unfold runN run3
  simp only [show List.range (3 - 1) = [0, 1] from rfl, List.all_cons, List.all_nil, Bool.and_true, Bool.and_eq_true, Nat.zero_add, Nat.reduceAdd, contN_iff _ (get!_lt256 s 1), contN_iff _ (get!_lt256 s 2)]
  rfl
theorem runN_4 (s : ByteArray) (b0 : Nat) : runN s 4 (b0 % 8) 65536 = run4 b0 (s.get! 1).toNat (s.get! 2).toNat (s.get! 3).toNat := by
  unfold runN run4
  simp only [show List.range (4 - 1) = [0, 1, 2] from rfl, List.all_cons, List.all_nil, Bool.and_true, Bool.and_eq_true, Nat.zero_add, Nat.reduceAdd, contN_iff _ (get!_lt256 s 1), contN_iff _ (get!_lt256 s 2), contN_iff _ (get!_lt256 s 3)]
  rfl
/-- The model's decoding, a class of first bytes at a time. -/
theorem dec_two (n b0 b1 b2 b3 : Nat) (hn : 2 ≤ n) (c1 : b1 / 64 = 2) (hb : 194 ≤ b0 ∧ b0 ≤ 223) : decodeN n b0 b1 b2 b3 = (b0 % 32 * 64 + b1 % 64, 2) := by
  unfold decodeN
  rw [if_neg (show ¬ b0 < 128 by omega), if_pos (show b0 / 32 = 6 ∧ 1 < n ∧ b1 / 64 = 2 from ⟨by omega, by omega, c1⟩), if_pos (show b0 % 32 * 64 + b1 % 64 ≥ 128 by omega)]
theorem dec_three (n b0 b1 b2 b3 r : Nat) (hn : 3 ≤ n) (c1 : b1 / 64 = 2) (c2 : b2 / 64 = 2) (hb : 224 ≤ b0 ∧ b0 ≤ 239) (hr : r = b0 % 16 * 4096 + b1 % 64 * 64 + b2 % 64) :
    decodeN n b0 b1 b2 b3 = if r < 2048 ∨ 1114111 < r ∨ (55296 ≤ r ∧ r ≤ 57343) then (65533, 1) else (r, 3) := by
  unfold decodeN
  rw [if_neg (show ¬ b0 < 128 by omega), if_neg (show ¬ (b0 / 32 = 6 ∧ 1 < n ∧ b1 / 64 = 2) by omega), if_pos (show b0 / 16 = 14 ∧ (1 < n ∧ b1 / 64 = 2) ∧ (2 < n ∧ b2 / 64 = 2) from ⟨by omega, ⟨by omega, c1⟩, by omega, c2⟩), ← hr]
  by_cases c : r < 2048 ∨ 1114111 < r ∨ (55296 ≤ r ∧ r ≤ 57343)
  · rw [if_pos c, if_neg (by omega)]
  · rw [if_neg c, if_pos (by omega)]
theorem dec_four (n b0 b1 b2 b3 r : Nat) (hn : 4 ≤ n) (c1 : b1 / 64 = 2) (c2 : b2 / 64 = 2) (c3 : b3 / 64 = 2) (hb : 240 ≤ b0 ∧ b0 ≤ 244) (hr : r = b0 % 8 * 262144 + b1 % 64 * 4096 + b2 % 64 * 64 + b3 % 64) :
    decodeN n b0 b1 b2 b3 = if r < 65536 ∨ 1114111 < r ∨ (55296 ≤ r ∧ r ≤ 57343) then (65533, 1) else (r, 4) := by
  unfold decodeN
  rw [if_neg (show ¬ b0 < 128 by omega), if_neg (show ¬ (b0 / 32 = 6 ∧ 1 < n ∧ b1 / 64 = 2) by omega), if_neg (show ¬ (b0 / 16 = 14 ∧ (1 < n ∧ b1 / 64 = 2) ∧ (2 < n ∧ b2 / 64 = 2)) by omega),
    if_pos (show b0 / 8 = 30 ∧ (1 < n ∧ b1 / 64 = 2) ∧ (2 < n ∧ b2 / 64 = 2) ∧ (3 < n ∧ b3 / 64 = 2) from ⟨by omega, ⟨by omega, c1⟩, ⟨by omega, c2⟩, by omega, c3⟩), ← hr]
  by_cases c : r < 65536 ∨ 1114111 < r ∨ (55296 ≤ r ∧ r ≤ 57343)
  · rw [if_pos c, if_neg (by omega)]
  · rw [if_neg c, if_pos (by omega)]
theorem dec_none (n b0 b1 b2 b3 : Nat) (h : (128 ≤ b0 ∧ b0 ≤ 193) ∨ (245 ≤ b0 ∧ b0 < 256) ∨ (194 ≤ b0 ∧ b0 ≤ 223 ∧ ¬ (2 ≤ n ∧ b1 / 64 = 2)) ∨ (224 ≤ b0 ∧ b0 ≤ 239 ∧ ¬ (3 ≤ n ∧ b1 / 64 = 2 ∧ b2 / 64 = 2)) ∨ (240 ≤ b0 ∧ b0 ≤ 244 ∧ ¬ (4 ≤ n ∧ b1 / 64 = 2 ∧ b2 / 64 = 2 ∧ b3 / 64 = 2))) : decodeN n b0 b1 b2 b3 = (65533, 1) := by
  unfold decodeN
  rw [if_neg (show ¬ b0 < 128 by omega)]
  repeat' split
  all_goals first | rfl | (exfalso; omega)
theorem dec_one (n b0 b1 b2 b3 : Nat) (h : b0 < 128) : decodeN n b0 b1 b2 b3 = (b0, 1) := by
  unfold decodeN
  rw [if_pos h]
theorem siz_of_none {n b0 b1 b2 b3 : Nat} (h : decodeN n b0 b1 b2 b3 = (65533, 1)) : sizN n b0 b1 b2 b3 = (0, 0) := by
  unfold sizN; rw [if_pos h]
theorem siz_of_some {n b0 b1 b2 b3 r k : Nat} (h : decodeN n b0 b1 b2 b3 = (r, k)) (hk : r ≠ 65533 ∨ k ≠ 1) : sizN n b0 b1 b2 b3 = (k, r) := by
  unfold sizN; rw [h, if_neg (by simp only [Prod.mk.injEq]; omega)]
theorem run2_eq (n b0 b1 b2 b3 : Nat) (hn : 2 ≤ n) (hb : 194 ≤ b0 ∧ b0 ≤ 223) : run2 b0 b1 = sizN n b0 b1 b2 b3 := by
  unfold run2
  by_cases c1 : b1 / 64 = 2
  · rw [if_pos c1, siz_of_some (dec_two n b0 b1 b2 b3 hn c1 hb) (.inr (by decide)), outN, if_neg (by omega)]
    simp only [Prod.mk.injEq, true_and]; omega
  · rw [if_neg c1, siz_of_none (dec_none _ _ _ _ _ (.inr (.inr (.inl ⟨hb.1, hb.2, fun h => c1 h.2⟩))))]
theorem run3_eq (n b0 b1 b2 b3 : Nat) (hn : 3 ≤ n) (hb : 224 ≤ b0 ∧ b0 ≤ 239) : run3 b0 b1 b2 = sizN n b0 b1 b2 b3 := by
  unfold run3
  by_cases c1 : b1 / 64 = 2 ∧ b2 / 64 = 2
  · obtain ⟨r, hr⟩ : ∃ r, r = b0 % 16 * 4096 + b1 % 64 * 64 + b2 % 64 := ⟨_, rfl⟩
    rw [if_pos c1, show 64 * (64 * (b0 % 16) + b1 - 128) + b2 - 128 = r by omega, outN]
    have hd := dec_three n b0 b1 b2 b3 r hn c1.1 c1.2 hb hr
    by_cases c2 : r < 2048 ∨ 1114111 < r ∨ (55296 ≤ r ∧ r ≤ 57343)
    · rw [if_pos c2] at hd ⊢; rw [siz_of_none hd]
    · rw [if_neg c2] at hd ⊢; rw [siz_of_some hd (.inr (by decide))]
  · rw [if_neg c1, siz_of_none (dec_none _ _ _ _ _ (.inr (.inr (.inr (.inl ⟨hb.1, hb.2, fun h => c1 h.2⟩)))))]
theorem run4_eq (n b0 b1 b2 b3 : Nat) (hn : 4 ≤ n) (hb : 240 ≤ b0 ∧ b0 ≤ 244) : run4 b0 b1 b2 b3 = sizN n b0 b1 b2 b3 := by
  unfold run4
  by_cases c1 : b1 / 64 = 2 ∧ b2 / 64 = 2 ∧ b3 / 64 = 2
  · obtain ⟨r, hr⟩ : ∃ r, r = b0 % 8 * 262144 + b1 % 64 * 4096 + b2 % 64 * 64 + b3 % 64 := ⟨_, rfl⟩
    rw [if_pos c1, show 64 * (64 * (64 * (b0 % 8) + b1 - 128) + b2 - 128) + b3 - 128 = r by omega, outN]
    have hd := dec_four n b0 b1 b2 b3 r hn c1.1 c1.2.1 c1.2.2 hb hr
    by_cases c2 : r < 65536 ∨ 1114111 < r ∨ (55296 ≤ r ∧ r ≤ 57343)
    · rw [if_pos c2] at hd ⊢; rw [siz_of_none hd]
    · rw [if_neg c2] at hd ⊢; rw [siz_of_some hd (.inr (by decide))]
  · rw [if_neg c1, siz_of_none (dec_none _ _ _ _ _ (.inr (.inr (.inr (.inr ⟨hb.1, hb.2, fun h => c1 h.2⟩)))))]
/-- Too few bytes, or a first byte that begins nothing. -/
theorem siz_none (n b0 b1 b2 b3 : Nat) (h : (128 ≤ b0 ∧ b0 ≤ 193) ∨ (245 ≤ b0 ∧ b0 < 256) ∨ (194 ≤ b0 ∧ b0 ≤ 223 ∧ n < 2) ∨ (224 ≤ b0 ∧ b0 ≤ 239 ∧ n < 3) ∨ (240 ≤ b0 ∧ b0 ≤ 244 ∧ n < 4)) : sizN n b0 b1 b2 b3 = (0, 0) :=
  siz_of_none (dec_none _ _ _ _ _ (by omega))
theorem siz_one (n b0 b1 b2 b3 : Nat) (h : b0 < 128) : sizN n b0 b1 b2 b3 = (1, b0) :=
  siz_of_some (dec_one _ _ _ _ _ h) (.inl (by omega))
/-- The character: by 'size', by the library's decoding. -/
theorem siz_ch (n b0 b1 b2 b3 : Nat) : (sizN n b0 b1 b2 b3).1 = 0 ↔ decodeN n b0 b1 b2 b3 = (65533, 1) := by
  unfold sizN
  by_cases h : decodeN n b0 b1 b2 b3 = (65533, 1)
  · simp [h]
  · rw [if_neg h]
    simp only [h, iff_false]
    unfold decodeN
    repeat' split
    all_goals simp
end Go.Proofs.YtaemijgfngdjlaaDoor
