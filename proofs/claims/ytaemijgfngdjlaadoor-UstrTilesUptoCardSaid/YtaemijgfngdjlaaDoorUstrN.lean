/- Plain lists: how much of t a text ends with, and how that grows by one byte. -/
import Derived.KernelRfl
namespace Go.Proofs.YtaemijgfngdjlaaDoor

/-- t's first k bytes end x. -/
def Fits (t x : List UInt8) (k : Nat) : Prop := k ≤ t.length ∧ t.take k <:+ x
/-- k is the greatest. -/
def IsML (t x : List UInt8) (k : Nat) : Prop := Fits t x k ∧ ∀ j, Fits t x j → j ≤ k

theorem fits_zero (t x : List UInt8) : Fits t x 0 := ⟨Nat.zero_le _, by simp⟩
theorem fits_le {t x : List UInt8} {k : Nat} (h : Fits t x k) : k ≤ x.length := by
  have := h.2.length_le
  rw [List.length_take] at this
  have := h.1
  omega
theorem isML_unique {t x : List UInt8} {k m : Nat} (h : IsML t x k) (g : IsML t x m) : k = m :=
  Nat.le_antisymm (g.2 _ h.1) (h.2 _ g.1)
theorem suffix_of_suffix {a b x : List UInt8} (h : a <:+ x) (g : b <:+ x) (hl : a.length ≤ b.length) : a <:+ b := by
  rcases List.suffix_or_suffix_of_suffix h g with h1 | h1
  · exact h1
  · have := h1.eq_of_length_le hl
    rw [this]
    exact List.suffix_refl _
/-- One fitting length below another one fits what that one is without its first byte. -/
theorem fits_down {t x : List UInt8} {f j : Nat} (hf : Fits t x f) (hj : Fits t x j) (h : j < f) : Fits t ((t.take f).drop 1) j := by
  refine ⟨hj.1, ?_⟩
  have h1 : t.take j <:+ t.take f := suffix_of_suffix hj.2 hf.2 (by rw [List.length_take, List.length_take]; omega)
  refine suffix_of_suffix h1 (List.drop_suffix 1 _) ?_
  have := hf.1
  rw [List.length_drop, List.length_take, List.length_take]
  omega
theorem fits_up {t x : List UInt8} {f j : Nat} (hf : Fits t x f) (hj : Fits t ((t.take f).drop 1) j) : Fits t x j :=
  ⟨hj.1, (hj.2.trans (List.drop_suffix 1 _)).trans hf.2⟩
theorem fits_snoc {t x : List UInt8} {c : UInt8} {k : Nat} : Fits t (x ++ [c]) (k + 1) ↔ Fits t x k ∧ t[k]? = some c := by
  constructor
  · rintro ⟨h1, h2⟩
    have hk : k < t.length := h1
    rw [List.take_add_one, List.getElem?_eq_getElem hk] at h2
    simp only [Option.toList_some] at h2
    obtain ⟨y, hy⟩ := h2
    rw [← List.append_assoc] at hy
    obtain ⟨e1, e2⟩ := List.append_inj' hy rfl
    refine ⟨⟨Nat.le_of_lt hk, ⟨y, e1⟩⟩, ?_⟩
    rw [List.getElem?_eq_getElem hk]
    simpa using e2
  · rintro ⟨⟨h1, h2⟩, h3⟩
    have hk : k < t.length := (List.getElem?_eq_some_iff.1 h3).1
    refine ⟨hk, ?_⟩
    rw [List.take_add_one, h3]
    obtain ⟨y, hy⟩ := h2
    exact ⟨y, by rw [← hy, Option.toList_some, List.append_assoc]⟩
/-- The state of the loop that looks for what can grow: f fits, and nothing beyond it grows. -/
def Grows (t x : List UInt8) (c : UInt8) (f : Nat) : Prop := Fits t x f ∧ ∀ k, Fits t (x ++ [c]) (k + 1) → k ≤ f
theorem grows_start {t x : List UInt8} {c : UInt8} {f : Nat} (h : IsML t x f) : Grows t x c f :=
  ⟨h.1, fun k hk => h.2 k (fits_snoc.1 hk).1⟩
theorem grows_step {t x : List UInt8} {c : UInt8} {f g : Nat} (h : Grows t x c f) (hne : t[f]? ≠ some c) (hg : IsML t ((t.take f).drop 1) g) : Grows t x c g := by
  refine ⟨fits_up h.1 hg.1, fun k hk => ?_⟩
  have hle := h.2 k hk
  have hkf : k ≠ f := fun e => hne (by rw [← e]; exact (fits_snoc.1 hk).2)
  exact hg.2 k (fits_down h.1 (fits_snoc.1 hk).1 (by omega))
theorem grows_yes {t x : List UInt8} {c : UInt8} {f : Nat} (h : Grows t x c f) (he : t[f]? = some c) : IsML t (x ++ [c]) (f + 1) :=
  ⟨fits_snoc.2 ⟨h.1, he⟩, fun j hj => by
    cases j with
    | zero => omega
    | succ j => have := h.2 j hj; omega⟩
theorem grows_no {t x : List UInt8} {c : UInt8} (h : Grows t x c 0) (hne : t[0]? ≠ some c) : IsML t (x ++ [c]) 0 :=
  ⟨fits_zero _ _, fun j hj => by
    cases j with
    | zero => omega
    | succ j =>
      have h1 := h.2 j hj
      obtain rfl : j = 0 := by omega
      exact absurd (fits_snoc.1 hj).2 hne⟩
/-- A border is shorter. -/
theorem isML_border_lt {t : List UInt8} {f g : Nat} (hf : 0 < f) (hft : f ≤ t.length) (h : IsML t ((t.take f).drop 1) g) : g < f := by
  have := fits_le h.1
  rw [List.length_drop, List.length_take] at this
  omega
theorem exists_ML (t x : List UInt8) : ∃ k, IsML t x k := by
  have : ∀ n, n ≤ t.length → (∀ j, Fits t x j → j ≤ n) → ∃ k, IsML t x k := by
    intro n
    induction n with
    | zero => exact fun _ h => ⟨0, fits_zero _ _, h⟩
    | succ n ih =>
      intro hn h
      by_cases hf : Fits t x (n + 1)
      · exact ⟨n + 1, hf, h⟩
      · exact ih (by omega) (fun j hj => by
          have := h j hj
          by_cases e : j = n + 1
          · subst e; exact absurd hj hf
          · omega)
  exact this t.length (Nat.le_refl _) (fun j hj => hj.1)
/-- The borders' list: at place n the greatest length, less than n, that fits t's first n bytes. -/
def IsBorders (t : List UInt8) (l : Nat → Nat) (n : Nat) : Prop := ∀ j, 1 ≤ j → j ≤ n → IsML t ((t.take j).drop 1) (l j)
theorem border_one (t : List UInt8) (h : 1 ≤ t.length) : IsML t ((t.take 1).drop 1) 0 := by
  refine ⟨fits_zero _ _, fun j hj => ?_⟩
  have := fits_le hj
  rw [List.length_drop, List.length_take] at this
  omega
theorem border_next (t : List UInt8) (n : Nat) (h1 : 1 ≤ n) (h : n < t.length) : (t.take (n + 1)).drop 1 = (t.take n).drop 1 ++ [t[n]] := by
  rw [List.take_succ_eq_append_getElem h, List.drop_append_of_le_length (by rw [List.length_take]; omega)]
/-- All of t ends x: t stands there. -/
theorem fits_all {t x : List UInt8} : Fits t x t.length ↔ t <:+ x := by
  unfold Fits
  rw [List.take_length]
  simp
end Go.Proofs.YtaemijgfngdjlaaDoor
