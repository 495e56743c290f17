/- Plain: a text whose signs have a backslash ahead reads as its characters, byte by byte, too (layer 10). -/
import Derived.Test.YtdfacbcenogplaaDoorPRxLm
import Derived.Test.YtdfacbcenogplaaDoorPk1
import Derived.Test.YtdfacbcenogplaaDoorPk2
import Derived.Test.YtdfacbcenogplaaDoorPk3
import Derived.Test.YtdfacbcenogplaaDoorPk4
import Derived.Test.YtdfacbcenogplaaDoorPk5
import Derived.Test.YtdfacbcenogplaaDoorPk6
import Derived.Test.YtdfacbcenogplaaDoorPk7
import Derived.Test.YtdfacbcenogplaaDoorPk8
import Derived.Test.YtdfacbcenogplaaDoorPk9
import Derived.Test.YtdfacbcenogplaaDoorPk10
import Derived.Test.YtdfacbcenogplaaDoorPk11
import Derived.Test.YtdfacbcenogplaaDoorPk12
namespace Go.Proofs.YtdfacbcenogplaaDoor
open Go.Lib

theorem lit_rowB (grp : Nat → Nat → Rs Tr) (s : ByteArray) : ∀ (l : List UInt8) (f i : Nat) (kids : List Tr), l.length < f → i ≤ s.size → (∀ c ∈ l, c.toNat < 128) → s.data.toList.drop i = (l.map encL).flatten →
    rowF grp s true f i kids = .ok (togF 5 (kids ++ l.map fun c => trC c.toNat)) s.size
  | [], f, i, kids, hf, hi, _, hd => by
    obtain ⟨g, rfl⟩ : ∃ g, f = g + 1 := ⟨f - 1, by simp at hf; omega⟩
    have he : i = s.size := by
      rcases Nat.lt_or_ge i s.size with h1 | h1
      · rw [rx_drop s i h1] at hd
        simp at hd
      · omega
    rw [row_end (.inl he), he]
    simp
  | c :: l, f, i, kids, hf, hi, hc, hd => by
    obtain ⟨g, rfl⟩ : ∃ g, f = g + 1 := ⟨f - 1, by omega⟩
    have c8 := hc c (by simp)
    have hc' : ∀ x ∈ l, x.toNat < 128 := fun x hx => hc x (by simp [hx])
    rw [List.map_cons, List.flatten_cons] at hd
    by_cases hs : litQ c.toNat = true ∨ alnF c.toNat = true
    · rw [encL, if_pos hs, List.cons_append, List.nil_append] at hd
      obtain ⟨h1, h2, h3⟩ := get_of_drop hd
      have q : c.toNat = 60 ∨ c.toNat = 62 ∨ c.toNat = 39 ∨ c.toNat = 96 ∨ (48 ≤ c.toNat ∧ c.toNat ≤ 57) ∨ (65 ≤ c.toNat ∧ c.toNat ≤ 90) ∨ (97 ≤ c.toNat ∧ c.toNat ≤ 122) := by
        unfold litQ alnF at hs
        simp only [decide_eq_true_eq] at hs
        omega
      have st : ∀ d, d ≠ c.toNat → st1 s i d = false := fun d hd => by
        unfold st1
        rw [h2, decide_eq_false_iff_not]
        omega
      have he : ¬ rowE s i := by
        unfold rowE
        rw [st 124 (by omega), st 41 (by omega)]
        simp
        omega
      have hr : repF s i = none := by
        unfold repF ivlF bndF
        rw [st 42 (by omega), st 43 (by omega), st 63 (by omega), st 123 (by omega)]
        rfl
      have hn : nodeF grp s true i = .ok (trC c.toNat) (i + 1) := by
        unfold nodeF
        rw [nx_asc s i true h1 (by rw [h2]; exact c8), h2]
        rw [if_neg (show ¬ c.toNat = 40 by omega), if_neg (show ¬ c.toNat = 91 by omega), if_neg (show ¬ c.toNat = 92 by omega), if_neg (show ¬ c.toNat = 46 by omega), if_neg (show ¬ c.toNat = 94 by omega), if_neg (show ¬ c.toNat = 36 by omega)]
      rw [row_node he (.inr hr) hn, lit_rowB grp s l g (i + 1) _ (by simp at hf; omega) (by omega) hc' h3]
      simp
    · rw [encL, if_neg hs, List.cons_append, List.cons_append, List.nil_append] at hd
      obtain ⟨h1, h2, h3⟩ := get_of_drop hd
      obtain ⟨k1, k2, k3⟩ := get_of_drop h3
      have q : c.toNat ≠ 60 ∧ c.toNat ≠ 62 ∧ c.toNat ≠ 39 ∧ c.toNat ≠ 96 ∧ ¬ (48 ≤ c.toNat ∧ c.toNat ≤ 57) ∧ ¬ (65 ≤ c.toNat ∧ c.toNat ≤ 90) ∧ ¬ (97 ≤ c.toNat ∧ c.toNat ≤ 122) := by
        unfold litQ alnF at hs
        simp only [decide_eq_true_eq] at hs
        omega
      have h2n : (s.get! i).toNat = 92 := by rw [h2]; rfl
      have st : ∀ d, d ≠ 92 → st1 s i d = false := fun d hd => by
        unfold st1
        rw [h2n, decide_eq_false_iff_not]
        omega
      have he : ¬ rowE s i := by
        unfold rowE
        rw [st 124 (by omega), st 41 (by omega)]
        simp
        omega
      have hr : repF s i = none := by
        unfold repF ivlF bndF
        rw [st 42 (by omega), st 43 (by omega), st 63 (by omega), st 123 (by omega)]
        rfl
      have hn : nodeF grp s true i = .ok (trC c.toNat) (i + 1 + 1) := by
        unfold nodeF
        rw [nx_asc s i true h1 (by omega), h2n]
        rw [if_neg (by omega), if_neg (by omega), if_pos rfl]
        unfold mrkF
        rw [if_neg (show ¬ i + 1 = s.size by omega), nx_asc s (i + 1) true k1 (by rw [k2]; exact c8), k2]
        simp only
        rw [if_neg (show ¬ c.toNat = 121 by omega), if_neg (show ¬ c.toNat = 66 by omega), if_neg (show ¬ c.toNat = 60 by omega), if_neg (show ¬ c.toNat = 62 by omega), if_neg (show ¬ c.toNat = 96 by omega), if_neg (show ¬ c.toNat = 39 by omega), if_neg (show ¬ c.toNat = 119 by omega), if_neg (show ¬ c.toNat = 87 by omega), if_neg (show ¬ c.toNat = 115 by omega), if_neg (show ¬ c.toNat = 83 by omega)]
        have ha : alnF c.toNat = false := by
          unfold alnF
          rw [decide_eq_false_iff_not]
          omega
        have hm : meantF c.toNat = some c.toNat := by
          unfold meantF
          rw [if_neg (by omega), if_neg (by omega), if_neg (by omega), if_neg (by omega), if_neg (by omega), if_neg (by omega), if_neg (by omega), ha]
          rfl
        rw [hm]
      rw [row_node he (.inr hr) hn, lit_rowB grp s l g (i + 1 + 1) _ (by simp at hf; omega) (by omega) hc' k3]
      simp
theorem lit_parseB (l : List UInt8) (s : ByteArray) (hl : l.length ≤ 150) (hc : ∀ c ∈ l, c.toNat < 128) (hs : s.data.toList = (l.map encL).flatten) :
    rxParse s true = (togF 5 (l.map fun c => trC c.toNat), 0, 0) := by
  have hz : s.size ≤ 2 * l.length := by
    rw [Lib.size_eq, hs]
    clear hs hc hl
    induction l with
    | nil => simp
    | cons c l ih =>
      rw [List.map_cons, List.flatten_cons, List.length_append]
      have : (encL c).length ≤ 2 := by
        unfold encL
        split <;> simp
      simp only [List.length_cons]
      omega
  have hz2 : l.length ≤ s.size := by
    rw [Lib.size_eq, hs]
    clear hs hc hl hz
    induction l with
    | nil => simp
    | cons c l ih =>
      rw [List.map_cons, List.flatten_cons, List.length_append]
      have : 1 ≤ (encL c).length := by
        unfold encL
        split <;> simp
      simp only [List.length_cons]
      omega
  have hr := lit_rowB (grpF s true 40) s l (s.size + 1) 0 [] (by omega) (by omega) hc (by rw [List.drop_zero]; exact hs)
  rw [List.nil_append] at hr
  unfold rxParse
  rw [if_neg (by omega), chD, chF, hr]
  simp only [st1_end, Bool.false_eq_true, if_false, List.nil_append, if_true]
  have hw : (togF 6 [togF 5 (l.map fun c => trC c.toNat)]).wt ≤ 200 := by
    show (togF 5 (l.map fun c => trC c.toNat)).wt ≤ 200
    match l, hl with
    | [], _ => show (trK 1).wt ≤ 200; unfold trK; rw [Tr.wt, Tr.wts]; decide
    | [c], _ => show (trC c.toNat).wt ≤ 200; unfold trC; rw [Tr.wt, Tr.wts]; simp only [show ¬ ((2 : Int) = 5) by decide, show ¬ ((2 : Int) = 7) by decide, if_false]; decide
    | c :: d :: l, hl =>
      show (trN 5 ((c :: d :: l).map fun c => trC c.toNat)).wt ≤ 200
      have := wts_chars (c :: d :: l) 0 (Int.le_refl _) (by omega)
      unfold trN
      rw [Tr.wt, if_pos rfl, this]
      omega
  rw [if_neg (by omega)]
  rfl
end Go.Proofs.YtdfacbcenogplaaDoor
