/- Plain: a text's first place, by what a find of it tells (layer 10). -/
import Derived.Test.YtdfacbcenogplaaDoorPNfaO
import Derived.Test.YtdfacbcenogplaaDoorPNfaQ
import Derived.Test.YtdfacbcenogplaaDoorPNfaUm
import Derived.Lib.IndexLaws
import Derived.Test.YtdfacbcenogplaaDoorPk1
import Derived.Test.YtdfacbcenogplaaDoorPk2
import Derived.Test.YtdfacbcenogplaaDoorPk3
import Derived.Test.YtdfacbcenogplaaDoorPk4
import Derived.Test.YtdfacbcenogplaaDoorPk5
import Derived.Test.YtdfacbcenogplaaDoorPk6
import Derived.Test.YtdfacbcenogplaaDoorPk7
import Derived.Test.YtdfacbcenogplaaDoorPk8
import Derived.Test.YtdfacbcenogplaaDoorPk9
import Derived.Test.YtdfacbcenogplaaDoorPk10
import Derived.Test.YtdfacbcenogplaaDoorPk11
import Derived.Test.YtdfacbcenogplaaDoorPk12
namespace Go.Proofs.YtdfacbcenogplaaDoor
open Go.RowKit Go.Lib

theorem li_get (s : ByteArray) (n : Nat) (h : n < s.size) : s.data.toList[n]? = some (s.get! n) := by
  have h' : n < s.data.size := h
  rw [Array.getElem?_toList, Array.getElem?_eq_getElem h']
  congr 1
  show s.data[n] = s.data[n]!
  rw [getElem!_pos s.data n h']
theorem li_occ (S l : List UInt8) (j : Nat) : Lib.occAt S l j = true ↔ ∀ i (h : i < l.length), S[j + i]? = some l[i] := by
  unfold Lib.occAt
  rw [List.isPrefixOf_iff_prefix, List.prefix_iff_getElem?]
  refine ⟨fun h i hi => ?_, fun h i hi => ?_⟩
  · rw [← h i hi, List.getElem?_drop]
  · rw [List.getElem?_drop]; exact h i hi
theorem li_index (s : ByteArray) (l : List UInt8) {a : Nat} (ha : a ≤ s.size) {found : Bool} {st en : Nat}
    (h1 : found = true → a ≤ st ∧ en = st + l.length ∧ st ≤ s.size ∧ ∀ i (h : i < l.length), st + i < s.size ∧ s.get! (st + i) = l[i])
    (h2 : ∀ b, a ≤ b → b ≤ s.size → (∀ i (h : i < l.length), b + i < s.size ∧ s.get! (b + i) = l[i]) → found = true ∧ st ≤ b) :
    (found = true → Lib.index (s.data.toList.drop a) l = ((st - a : Nat) : Int)) ∧ (found = false → Lib.index (s.data.toList.drop a) l = -1) := by
  have hlen : (s.data.toList.drop a).length = s.size - a := by rw [List.length_drop]; rfl
  have key : ∀ j, j ≤ s.size - a → Lib.occAt (s.data.toList.drop a) l j = true → found = true ∧ st ≤ a + j := fun j hj hoc => by
    rw [li_occ] at hoc
    refine h2 (a + j) (by omega) (by omega) (fun i hi => ?_)
    have h := hoc i hi
    rw [List.getElem?_drop] at h
    have hlt : a + (j + i) < s.size := (List.getElem?_eq_some_iff.1 h).1
    rw [li_get s _ hlt] at h
    rw [show a + j + i = a + (j + i) by omega]
    exact ⟨hlt, Option.some.inj h⟩
  refine ⟨fun hf => ?_, fun hf => ?_⟩
  · obtain ⟨g1, g2, g3, g4⟩ := h1 hf
    refine Lib.index_first (by rw [hlen]; omega) ?_ (fun j hj => ?_)
    · rw [li_occ]
      intro i hi
      obtain ⟨q1, q2⟩ := g4 i hi
      rw [List.getElem?_drop, show a + (st - a + i) = st + i by omega, li_get s _ q1, q2]
    · cases hoc : Lib.occAt (s.data.toList.drop a) l j with
      | false => rfl
      | true => have := key j (by omega) hoc; omega
  · refine Lib.index_none (fun j hj => ?_)
    cases hoc : Lib.occAt (s.data.toList.drop a) l j with
    | false => rfl
    | true =>
      have := (key j (by rw [hlen] at hj; exact hj) hoc).1
      rw [hf] at this
      cases this
/-- A text of small letters and digits is written as it is. -/
def litB (c : UInt8) : Bool := (decide (97 ≤ c.toNat) && decide (c.toNat ≤ 122)) || (decide (48 ≤ c.toNat) && decide (c.toNat ≤ 57))
theorem li_alph : (List.range 256).all (fun n => !litB n.toUInt8 || (encL n.toUInt8 == [n.toUInt8] && decide (n < 128))) = true := by kernel_rfl
theorem li_enc (c : UInt8) (h : litB c = true) : encL c = [c] ∧ c.toNat < 128 := by
  have h1 := List.all_eq_true.1 li_alph c.toNat (List.mem_range.2 c.toNat_lt)
  have e : c.toNat.toUInt8 = c := by simp
  rw [e, h] at h1
  simpa using h1
theorem li_flat (l : List UInt8) (h : ∀ c ∈ l, litB c = true) : (l.map encL).flatten = l := by
  induction l with
  | nil => rfl
  | cons c l ih =>
    rw [List.map_cons, List.flatten_cons, (li_enc c (h c (List.mem_cons_self ..))).1, ih (fun d hd => h d (List.mem_cons_of_mem _ hd))]
    rfl
theorem li_parse (s : ByteArray) (hl : s.size ≤ 150) (h : ∀ c ∈ s.data.toList, litB c = true) : rxParse s true = (togF 5 (s.data.toList.map fun c => trC c.toNat), 0, 0) :=
  lit_parseB s.data.toList s hl (fun c hc => (li_enc c (h c hc)).2) (li_flat _ h).symm
end Go.Proofs.YtdfacbcenogplaaDoor
