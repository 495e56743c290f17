/- Plain: a written time, word by word. -/
import Derived.Test.YtelhbkfhalpniaaDoorQt1
import Derived.Test.YtelhbkfhalpniaaDoorQt2
import Derived.Test.YtelhbkfhalpniaaDoorQt3
import Derived.Test.YtelhbkfhalpniaaDoorQt4
import Derived.Test.YtelhbkfhalpniaaDoorQt5
namespace Go.Proofs.YtelhbkfhalpniaaDoor
open Go.RowKit Go.Lib Go.Joins

abbrev nbB (b : UInt8) : Bool := !blkB b
theorem tw_get (p : UInt8 → Bool) : ∀ (M : List UInt8) (m : Nat), (∀ j b, j ≤ m → M[j]? = some b → p b = true) → (M.takeWhile p)[m]? = M[m]?
  | [], m, _ => by simp
  | b :: r, 0, h => by
    have hb := h 0 b (Nat.le_refl _) rfl
    rw [List.takeWhile_cons, hb]; rfl
  | b :: r, m + 1, h => by
    have hb := h 0 b (Nat.zero_le _) rfl
    rw [List.takeWhile_cons, hb]
    exact tw_get p r m (fun j c hj hc => h (j + 1) c (by omega) hc)
theorem drop_at {L : List UInt8} {k : Nat} {b : UInt8} (h : L[k]? = some b) : L.drop k = b :: L.drop (k + 1) := by
  obtain ⟨hk, hb⟩ := List.getElem?_eq_some_iff.1 h
  rw [List.drop_eq_getElem_cons hk, hb]
theorem word_end {L : List UInt8} : ∀ (m k i : Nat), i = k + m → i ≤ L.length → (∀ j b, k ≤ j → j < i → L[j]? = some b → blkB b = false) → (i = L.length ∨ ∃ b, L[i]? = some b ∧ blkB b = true) → (L.drop k).takeWhile nbB = (L.drop k).take m ∧ (L.drop k).dropWhile nbB = L.drop i
  | 0, k, i, e, hi, _, he => by
    obtain rfl : i = k := by omega
    rcases he with he | ⟨b, hb, hbl⟩
    · rw [he, List.drop_length]; exact ⟨rfl, rfl⟩
    · rw [drop_at hb, List.takeWhile_cons, List.dropWhile_cons]
      have : nbB b = false := by rw [nbB, hbl]; rfl
      rw [this]
      exact ⟨rfl, rfl⟩
  | m + 1, k, i, e, hi, h, he => by
    have hk : k < L.length := by omega
    have hb : L[k]? = some L[k] := List.getElem?_eq_getElem hk
    have hn := h k _ (Nat.le_refl _) (by omega) hb
    have hn2 : nbB L[k] = true := by rw [nbB, hn]; rfl
    obtain ⟨h1, h2⟩ := word_end m (k + 1) i (by omega) hi (fun j b hj hj2 hb => h j b (by omega) hj2 hb) he
    rw [drop_at hb, List.takeWhile_cons, List.dropWhile_cons, hn2, List.take_succ_cons]
    exact ⟨by rw [if_pos rfl, h1], by rw [if_pos rfl]; exact h2⟩
/-- What stands at a place of the word. -/
theorem word_at {L : List UInt8} {k i : Nat} {b : UInt8} (hki : k ≤ i) (h : ∀ j b, k ≤ j → j ≤ i → L[j]? = some b → blkB b = false) (hb : L[i]? = some b) : ((L.drop k).takeWhile nbB)[i - k]? = some b := by
  rw [tw_get nbB (L.drop k) (i - k) (fun j c hj hc => by
    rw [List.getElem?_drop] at hc
    rw [nbB, h (k + j) c (by omega) (by omega) hc]; rfl)]
  rw [List.getElem?_drop, show k + (i - k) = i by omega]
  exact hb
theorem decFrom_bad {l : List UInt8} {m : Nat} {b : UInt8} (hb : l[m]? = some b) (hd : Lib.digitVal b = none) (a : Nat) : Lib.decFrom a l = none := by
  cases h : Lib.decFrom a l with
  | none => rfl
  | some n =>
    obtain ⟨d, h2⟩ := Lib.digit_of_decFrom l a n h m b hb
    rw [hd] at h2; cases h2
theorem decNat_bad {l : List UInt8} {m : Nat} {b : UInt8} (hb : l[m]? = some b) (hd : Lib.digitVal b = none) : Lib.decNat l = none := by
  unfold Lib.decNat
  split
  · rfl
  · exact decFrom_bad hb hd 0
/-- How a word begins: with a sign, or not. -/
structure Sig (c : UInt8) (mn : Bool) (off : Nat) : Prop where
  way : (c = 45 ∧ mn = true ∧ off = 1) ∨ (c = 43 ∧ mn = false ∧ off = 1) ∨ (c ≠ 45 ∧ c ≠ 43 ∧ mn = false ∧ off = 0)
theorem atoi_of {c : UInt8} {r : List UInt8} {mn : Bool} {off : Nat} (h : Sig c mn off) : Lib.atoi (c :: r) = (Lib.decNat ((c :: r).drop off)).map fun (m : Nat) => if mn = true then -(m : Int) else (m : Int) := by
  rcases h.way with ⟨rfl, rfl, rfl⟩ | ⟨rfl, rfl, rfl⟩ | ⟨h1, h2, rfl, rfl⟩
  · rfl
  · rfl
  · have e1 : (c == 45) = false := by rw [beq_eq_false_iff_ne]; exact h1
    have e2 : (c == 43) = false := by rw [beq_eq_false_iff_ne]; exact h2
    rw [Lib.atoi, e1, e2]
    rfl
theorem tok_bad1 {L : List UInt8} {k i off : Nat} {mn : Bool} {c b : UInt8} (hc : L[k]? = some c) (hs : Sig c mn off) (hi : k + off ≤ i) (h : ∀ j b, k ≤ j → j ≤ i → L[j]? = some b → blkB b = false) (hb : L[i]? = some b) (hd : Lib.digitVal b = none) : wholeZ ((L.drop k).takeWhile nbB) = none := by
  have h1 := word_at (by omega) h hb
  have h0 := word_at (i := k) (Nat.le_refl _) (fun j b hj hj2 hb => h j b hj (by omega) hb) hc
  rw [Nat.sub_self] at h0
  unfold wholeZ
  split
  · obtain ⟨r, hr⟩ : ∃ r, (L.drop k).takeWhile nbB = c :: r := by
      cases hw : (L.drop k).takeWhile nbB with
      | nil => rw [hw] at h0; cases h0
      | cons a r => rw [hw] at h0; injection h0 with h0; subst h0; exact ⟨r, rfl⟩
    rw [hr, atoi_of hs]
    rw [hr] at h1
    have h2 : ((c :: r).drop off)[i - k - off]? = some b := by rw [List.getElem?_drop, show off + (i - k - off) = i - k by omega]; exact h1
    rw [decNat_bad h2 hd]
    rfl
  · rfl
theorem tok_bad2 {L : List UInt8} {k i : Nat} {b : UInt8} (hki : k ≤ i) (h : ∀ j b, k ≤ j → j ≤ i → L[j]? = some b → blkB b = false) (hb : L[i]? = some b) (h7 : 7 < i - k) : wholeZ ((L.drop k).takeWhile nbB) = none := by
  have h1 := word_at hki h hb
  have := (List.getElem?_eq_some_iff.1 h1).1
  unfold wholeZ
  rw [if_neg (by omega)]
theorem tok_end {L : List UInt8} {k i off n : Nat} {mn : Bool} {c : UInt8} (hc : L[k]? = some c) (hcb : blkB c = false) (hs : Sig c mn off) (hi : k + off ≤ i) (hl : i ≤ L.length) (h : ∀ j b, k ≤ j → j < i → L[j]? = some b → blkB b = false) (he : i = L.length ∨ ∃ b, L[i]? = some b ∧ blkB b = true) (hd : Lib.decFrom 0 ((L.drop (k + off)).take (i - (k + off))) = some n) :
    wholeZ ((L.drop k).takeWhile nbB) = (if i = k + off ∨ 7 < i - k then none else some (if mn = true then -(n : Int) else (n : Int))) ∧ (L.drop k).dropWhile nbB = L.drop i := by
  obtain ⟨h1, h2⟩ := word_end (i - k) k i (by omega) hl h he
  refine ⟨?_, h2⟩
  have hlen : ((L.drop k).take (i - k)).length = i - k := by rw [List.length_take, List.length_drop]; omega
  rw [h1]
  unfold wholeZ
  rw [hlen]
  by_cases h7 : i - k ≤ 7
  · rw [if_pos h7]
    have hik : k < i := by
      rcases Nat.lt_or_ge k i with h | h
      · exact h
      · obtain rfl : i = k := by omega
        rcases he with he | ⟨b, hb, hbl⟩
        · have := (List.getElem?_eq_some_iff.1 hc).1; omega
        · rw [hc] at hb; injection hb with hb; subst hb; rw [hcb] at hbl; cases hbl
    obtain ⟨m, hm⟩ : ∃ m, i - k = m + 1 := ⟨i - k - 1, by omega⟩
    rw [hm, drop_at hc, List.take_succ_cons, atoi_of hs]
    have e1 : (c :: (L.drop (k + 1)).take m).drop off = (L.drop (k + off)).take (i - (k + off)) := by
      rw [show c :: (L.drop (k + 1)).take m = (L.drop k).take (i - k) by rw [hm, drop_at hc, List.take_succ_cons], List.drop_take, List.drop_drop, show i - k - off = i - (k + off) by omega]
    rw [e1]
    unfold Lib.decNat
    by_cases hz : i = k + off
    · rw [if_pos (Or.inl hz), hz, Nat.sub_self]
      rfl
    · have hne : ((L.drop (k + off)).take (i - (k + off))).isEmpty = false := by
        cases hx : (L.drop (k + off)).take (i - (k + off)) with
        | nil =>
          have := congrArg List.length hx
          rw [List.length_take, List.length_drop] at this
          simp at this
          omega
        | cons a r => rfl
      rw [hne, if_neg (show ¬ (false = true) by simp), hd, if_neg (show ¬ (i = k + off ∨ 7 < m + 1) by omega)]
      rfl
  · rw [if_neg h7, if_pos (Or.inr (by omega))]
/-- What the words that were read make. -/
def finZ : Option (List Int × List UInt8) → Int
  | some ([y, m, d, hh, mm, ss], r) => if r.dropWhile blkB = [] then (if (atR y m d hh mm ss).2 = 0 then (atR y m d hh mm ss).1 else -1) else -1
  | _ => -1
theorem parse_fin (l : List UInt8) : parseZ l = finZ (parseN 6 [] l) := rfl
theorem fin_blank (n : Nat) (ns : List Int) (b : UInt8) (r : List UInt8) (h : blkB b = true) : finZ (parseN n ns (b :: r)) = finZ (parseN n ns r) := by
  have hd : (b :: r).dropWhile blkB = r.dropWhile blkB := by rw [List.dropWhile_cons, h]; rfl
  cases n with
  | zero =>
    show finZ (some (ns, b :: r)) = finZ (some (ns, r))
    rcases ns with _ | ⟨a1, _ | ⟨a2, _ | ⟨a3, _ | ⟨a4, _ | ⟨a5, _ | ⟨a6, _ | ⟨a7, t⟩⟩⟩⟩⟩⟩⟩ <;> first | rfl | (simp only [finZ, hd])
  | succ n =>
    have : pstep (b :: r) = pstep r := by unfold pstep; rw [hd]
    rw [parseN, parseN, this]
theorem first_keep {L : List UInt8} {k : Nat} {c : UInt8} (hc : L[k]? = some c) (hcb : blkB c = false) : (L.drop k).dropWhile blkB = L.drop k := by
  rw [drop_at hc, List.dropWhile_cons, hcb]; rfl
theorem fin_no {L : List UInt8} {k : Nat} {c : UInt8} (n : Nat) (ns : List Int) (hc : L[k]? = some c) (hcb : blkB c = false) (hw : n = 0 ∨ wholeZ ((L.drop k).takeWhile nbB) = none) : finZ (parseN n ns (L.drop k)) = -1 := by
  cases n with
  | zero =>
    have hd : (L.drop k).dropWhile blkB ≠ [] := by rw [first_keep hc hcb, drop_at hc]; exact List.cons_ne_nil _ _
    show finZ (some (ns, L.drop k)) = -1
    rcases ns with _ | ⟨a1, _ | ⟨a2, _ | ⟨a3, _ | ⟨a4, _ | ⟨a5, _ | ⟨a6, _ | ⟨a7, t⟩⟩⟩⟩⟩⟩⟩ <;> first | rfl | (simp only [finZ]; rw [if_neg hd])
  | succ n =>
    have hw := hw.resolve_left (by omega)
    have : pstep (L.drop k) = none := pstep_none (by rw [first_keep hc hcb]; exact hw)
    rw [parseN, this]; rfl
theorem fin_yes {L : List UInt8} {k i : Nat} {c : UInt8} {v : Int} (n : Nat) (ns : List Int) (hc : L[k]? = some c) (hcb : blkB c = false) (hw : wholeZ ((L.drop k).takeWhile nbB) = some v) (hr : (L.drop k).dropWhile nbB = L.drop i) : parseN (n + 1) ns (L.drop k) = parseN n (ns ++ [v]) (L.drop i) := by
  have hp : pstep (L.drop k) = some (v, (L.drop k).dropWhile nbB) := by
    have := pstep_some (l := L.drop k) (v := v) (by rw [first_keep hc hcb]; exact hw)
    rw [first_keep hc hcb] at this
    exact this
  rw [parseN, hp, hr]
theorem fin_end (n : Nat) (ns : List Int) : finZ (parseN (n + 1) ns []) = -1 := by
  have : pstep [] = none := rfl
  rw [parseN, this]; rfl
end Go.Proofs.YtelhbkfhalpniaaDoor
