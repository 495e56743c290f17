/- Plain arithmetic of layer 1: the places at which the characters of a string begin. -/
import Derived.Test.YtaemijgfngdjlaaDoorUstrM
import Derived.Lib.RuneCount
namespace Go.Proofs.YtaemijgfngdjlaaDoor
open Go.Lib

/-- How many bytes the character at a place has (0 past the end). -/
def wid (s : ByteArray) (b : Bool) (i : Nat) : Nat := (nextZ s (i : Int) b).2
def cod (s : ByteArray) (b : Bool) (i : Nat) : Nat := (nextZ s (i : Int) b).1
/-- The place of the k-th character (from 0 on), or the length. -/
def pl (s : ByteArray) (b : Bool) : Nat → Nat
  | 0 => 0
  | k + 1 => pl s b k + wid s b (pl s b k)

theorem nextZ_eq (s : ByteArray) (b : Bool) (i : Nat) : nextZ s (i : Int) b = (cod s b i, wid s b i) := rfl
theorem wid_out (s : ByteArray) (b : Bool) (i : Nat) (h : s.size ≤ i) : wid s b i = 0 := by
  unfold wid nextZ; rw [if_pos (by omega)]
theorem decodeN_wid (n b0 b1 b2 b3 : Nat) (hn : 1 ≤ n) : 1 ≤ (decodeN n b0 b1 b2 b3).2 ∧ (decodeN n b0 b1 b2 b3).2 ≤ n := by
  unfold decodeN
  repeat' split
  all_goals (simp only; omega)
theorem chN_wid (n b0 b1 b2 b3 : Nat) : (chN n b0 b1 b2 b3).2 = (decodeN n b0 b1 b2 b3).2 := by
  unfold chN
  split
  · rename_i h; rw [h]
  · rfl
theorem wid_byte (s : ByteArray) (i : Nat) (h : i < s.size) : wid s true i = 1 := by
  unfold wid nextZ; rw [if_neg (by omega)]; rfl
theorem wid_char (s : ByteArray) (i : Nat) (h : i < s.size) : wid s false i = (decodeN (s.size - i) (s.get! i).toNat (s.get! (i + 1)).toNat (s.get! (i + 2)).toNat (s.get! (i + 3)).toNat).2 := by
  unfold wid nextZ; rw [if_neg (by omega)]; exact chN_wid _ _ _ _ _
theorem wid_in (s : ByteArray) (b : Bool) (i : Nat) (h : i < s.size) : 1 ≤ wid s b i ∧ i + wid s b i ≤ s.size := by
  cases b
  · rw [wid_char s i h]
    have := decodeN_wid (s.size - i) (s.get! i).toNat (s.get! (i + 1)).toNat (s.get! (i + 2)).toNat (s.get! (i + 3)).toNat (by omega)
    omega
  · rw [wid_byte s i h]; omega
theorem wid_le4 (s : ByteArray) (b : Bool) (i : Nat) : wid s b i ≤ 4 := by
  by_cases h : i < s.size
  · cases b
    · rw [wid_char s i h]
      unfold decodeN
      repeat' split
      all_goals (simp only; omega)
    · rw [wid_byte s i h]; omega
  · rw [wid_out s b i (by omega)]; omega
theorem pl_le (s : ByteArray) (b : Bool) : ∀ k, pl s b k ≤ s.size
  | 0 => Nat.zero_le _
  | k + 1 => by
    have ih := pl_le s b k
    show pl s b k + wid s b (pl s b k) ≤ s.size
    by_cases h : pl s b k < s.size
    · exact (wid_in s b _ h).2
    · rw [wid_out s b _ (by omega)]; omega
theorem pl_succ (s : ByteArray) (b : Bool) (k : Nat) : pl s b (k + 1) = pl s b k + wid s b (pl s b k) := rfl
theorem pl_end (s : ByteArray) (b : Bool) (k : Nat) (h : pl s b k = s.size) : ∀ j, k ≤ j → pl s b j = s.size := by
  intro j hj
  obtain ⟨d, rfl⟩ := Nat.exists_eq_add_of_le hj
  induction d with
  | zero => exact h
  | succ d ih => rw [← Nat.add_assoc, pl_succ, ih (by omega), wid_out s b _ (by omega)]; rfl
theorem pl_ge (s : ByteArray) (b : Bool) : ∀ k, k ≤ pl s b k ∨ pl s b k = s.size
  | 0 => .inl (Nat.zero_le _)
  | k + 1 => by
    rcases Nat.lt_or_ge (pl s b k) s.size with h | h
    · rcases pl_ge s b k with h1 | h1
      · left; rw [pl_succ]; have := (wid_in s b _ h).1; omega
      · omega
    · right; exact pl_end s b k (by have := pl_le s b k; omega) _ (by omega)
theorem pl_size (s : ByteArray) (b : Bool) : pl s b s.size = s.size := by
  rcases pl_ge s b s.size with h | h
  · have := pl_le s b s.size; omega
  · exact h
/-- How many characters. -/
def cnt (s : ByteArray) (b : Bool) : Nat := (List.range s.size).countP fun k => decide (pl s b k < s.size)
theorem countP_range (p : Nat → Bool) : ∀ N c, c ≤ N → (∀ k, k < N → (p k = true ↔ k < c)) → (List.range N).countP p = c
  | 0, c, hc, _ => by simp; omega
  | N + 1, c, hc, h => by
    rw [List.range_succ, List.countP_append]
    by_cases hN : c ≤ N
    · rw [countP_range p N c hN (fun k hk => h k (by omega))]
      have := (h N (by omega))
      have hp : p N = false := by
        cases hpn : p N
        · rfl
        · exact absurd (this.1 hpn) (by omega)
      simp [hp]
    · obtain rfl : c = N + 1 := by omega
      rw [countP_range p N N (Nat.le_refl _) (fun k hk => by rw [h k (by omega)]; omega)]
      have hp := (h N (by omega)).2 (by omega)
      simp [hp]
theorem exists_cnt (s : ByteArray) (b : Bool) : ∃ c, c ≤ s.size ∧ ∀ k, pl s b k < s.size ↔ k < c := by
  have : ∀ N, (∀ k, pl s b k < s.size → k < N) → ∃ c, c ≤ N ∧ ∀ k, pl s b k < s.size ↔ k < c := by
    intro N
    induction N with
    | zero => intro h; exact ⟨0, Nat.le_refl _, fun k => ⟨h k, fun hk => by omega⟩⟩
    | succ N ih =>
      intro h
      by_cases hN : pl s b N < s.size
      · refine ⟨N + 1, Nat.le_refl _, fun k => ⟨h k, fun hk => ?_⟩⟩
        by_cases hlt : pl s b k < s.size
        · exact hlt
        · exact absurd (pl_end s b k (by have := pl_le s b k; omega) N (by omega)) (by omega)
      · obtain ⟨c, hc, hall⟩ := ih (fun k hk => by
          have := h k hk
          by_cases e : k = N
          · subst e; exact absurd hk hN
          · omega)
        exact ⟨c, by omega, hall⟩
  refine this s.size (fun k hk => ?_)
  by_cases h : k < s.size
  · exact h
  · exact absurd (pl_end s b s.size (pl_size s b) k (by omega)) (by omega)
theorem cnt_spec (s : ByteArray) (b : Bool) (k : Nat) : pl s b k < s.size ↔ k < cnt s b := by
  obtain ⟨c, hc, hall⟩ := exists_cnt s b
  have : cnt s b = c := countP_range _ _ _ hc (fun k _ => by rw [decide_eq_true_eq]; exact hall k)
  rw [this]; exact hall k
theorem cnt_le (s : ByteArray) (b : Bool) : cnt s b ≤ s.size := by
  unfold cnt
  have := List.countP_le_length (p := fun k => decide (pl s b k < s.size)) (l := List.range s.size)
  simpa using this
theorem pl_cnt (s : ByteArray) (b : Bool) : pl s b (cnt s b) = s.size := by
  have h := (not_congr (cnt_spec s b (cnt s b))).2 (by omega)
  have := pl_le s b (cnt s b)
  omega
theorem cnt_unique (s : ByteArray) (b : Bool) (k : Nat) (h : pl s b k = s.size) (hl : ∀ j, j < k → pl s b j < s.size) : cnt s b = k := by
  have h1 := (not_congr (cnt_spec s b k)).1 (by omega)
  by_cases hk : k = 0
  · omega
  · have h2 := (cnt_spec s b (k - 1)).1 (hl (k - 1) (by omega)); omega
theorem pl_mono (s : ByteArray) (b : Bool) (j k : Nat) (h : j ≤ k) : pl s b j ≤ pl s b k := by
  obtain ⟨d, rfl⟩ := Nat.exists_eq_add_of_le h
  induction d with
  | zero => exact Nat.le_refl _
  | succ d ih => rw [← Nat.add_assoc, pl_succ]; have := ih (by omega); omega
theorem pl_lt (s : ByteArray) (b : Bool) (j k : Nat) (h : j < k) (hj : j < cnt s b) : pl s b j < pl s b k := by
  have h1 := (cnt_spec s b j).2 hj
  have h2 := (wid_in s b _ h1).1
  have h3 := pl_mono s b (j + 1) k h
  rw [pl_succ] at h3
  omega
theorem pl_byte (s : ByteArray) : ∀ k, k ≤ s.size → pl s true k = k
  | 0, _ => rfl
  | k + 1, h => by rw [pl_succ, pl_byte s k (by omega), wid_byte s k (by omega)]
theorem cnt_byte (s : ByteArray) : cnt s true = s.size :=
  cnt_unique s true s.size (pl_byte s _ (Nat.le_refl _)) (fun j hj => by rw [pl_byte s j (by omega)]; exact hj)
/-- What the library counts. -/
theorem runeCountFrom_pl (s : ByteArray) : ∀ f k, s.size ≤ pl s false k + f → runeCountFrom s f (pl s false k) = cnt s false - k
  | 0, k, h => by
    have := (not_congr (cnt_spec s false k)).1 (by omega)
    show 0 = _
    omega
  | f + 1, k, h => by
    unfold runeCountFrom
    by_cases hk : pl s false k < s.size
    · rw [if_pos hk]
      have e : pl s false k + (Utf8.decode s (pl s false k)).2 = pl s false (k + 1) := by
        rw [pl_succ, wid_char s _ hk, decode_at]
      have h1 := (wid_in s false _ hk).1
      rw [e, runeCountFrom_pl s f (k + 1) (by rw [pl_succ]; omega)]
      have := (cnt_spec s false k).1 hk
      omega
    · rw [if_neg hk]
      have := (not_congr (cnt_spec s false k)).1 hk
      omega
theorem runeCount_cnt (s : ByteArray) : runeCount s = cnt s false :=
  runeCountFrom_pl s s.size 0 (by omega)
end Go.Proofs.YtaemijgfngdjlaaDoor
