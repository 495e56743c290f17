/- Plain: where a text of single characters leads (layer 10). -/
import Derived.Test.YtdfacbcenogplaaDoorPk1
import Derived.Test.YtdfacbcenogplaaDoorPk2
import Derived.Test.YtdfacbcenogplaaDoorPk3
import Derived.Test.YtdfacbcenogplaaDoorPk4
import Derived.Test.YtdfacbcenogplaaDoorPk5
import Derived.Test.YtdfacbcenogplaaDoorPk6
import Derived.Test.YtdfacbcenogplaaDoorPk7
import Derived.Test.YtdfacbcenogplaaDoorPk8
import Derived.Test.YtdfacbcenogplaaDoorPk9
import Derived.Test.YtdfacbcenogplaaDoorPk10
import Derived.Test.YtdfacbcenogplaaDoorPk11
import Derived.Test.YtdfacbcenogplaaDoorPk12
namespace Go.Proofs.YtdfacbcenogplaaDoor
open Go.RowKit Go.Lib

theorem tog_leads (E : NEnv) (l : List Tr) (a b : Nat) : (togF 5 l).leads E a b ↔ Tr.leadsRow E l a b := by
  match l with
  | [] =>
    show (trK 1).leads E a b ↔ _
    unfold trK
    rw [Tr.leads, if_pos rfl, Tr.leadsRow]
  | [t] =>
    show t.leads E a b ↔ _
    rw [Tr.leadsRow]
    constructor
    · intro h; exact ⟨b, h, by rw [Tr.leadsRow]⟩
    · rintro ⟨m, h, h2⟩
      rw [Tr.leadsRow] at h2
      rw [← h2]
      exact h
  | t :: u :: r =>
    show (trN 5 (t :: u :: r)).leads E a b ↔ _
    unfold trN
    rw [Tr.leads, if_neg (by decide), if_pos rfl]
theorem chr_leads (k : SCon) (hf : k.fold = false) (hb : k.bytes = true) (c : UInt8) (a b : Nat) : (trC c.toNat).leads (envS k) a b ↔ a < k.s.size ∧ k.s.get! a = c ∧ b = a + 1 := by
  unfold trC
  rw [Tr.leads, if_neg (by decide), if_neg (by decide), if_neg (by decide), if_neg (by decide), if_pos (.inl rfl)]
  unfold envS fitF
  simp only [if_true]
  rw [hf, hb]
  by_cases q : a < k.s.size
  · rw [if_pos q, nextZ_in k.s a true q, if_pos rfl]
    have e : ∀ x : Int, chLow false true x = x := fun _ => rfl
    rw [e]
    constructor
    · rintro ⟨h1, h2⟩
      refine ⟨q, ?_, by injection h1 with h1; omega⟩
      have h2 := of_decide_eq_true h2
      exact UInt8.toNat_inj.1 (by omega)
    · rintro ⟨_, h1, h2⟩
      refine ⟨by rw [h2], ?_⟩
      rw [h1]
      simp
  · rw [if_neg q]
    constructor
    · rintro ⟨h, _⟩; cases h
    · rintro ⟨h, _⟩; exact absurd h q
theorem lit_leads (k : SCon) (hf : k.fold = false) (hb : k.bytes = true) : ∀ (l : List UInt8) (a b : Nat), Tr.leadsRow (envS k) (l.map fun c => trC c.toNat) a b ↔ b = a + l.length ∧ ∀ i (h : i < l.length), a + i < k.s.size ∧ k.s.get! (a + i) = l[i]
  | [], a, b => by
    rw [List.map_nil, Tr.leadsRow]
    constructor
    · intro h; exact ⟨by simp [h], fun i h => absurd h (Nat.not_lt_zero _)⟩
    · rintro ⟨h, _⟩; simpa using h.symm
  | c :: l, a, b => by
    rw [List.map_cons, Tr.leadsRow]
    constructor
    · rintro ⟨m, h1, h2⟩
      obtain ⟨q1, q2, rfl⟩ := (chr_leads k hf hb c a m).1 h1
      obtain ⟨rfl, q3⟩ := (lit_leads k hf hb l (a + 1) b).1 h2
      refine ⟨by simp; omega, fun i hi => ?_⟩
      cases i with
      | zero => exact ⟨q1, q2⟩
      | succ i =>
        have := q3 i (by simpa using hi)
        rw [show a + (i + 1) = a + 1 + i by omega]
        exact this
    · rintro ⟨h1, h2⟩
      refine ⟨a + 1, (chr_leads k hf hb c a _).2 ⟨(h2 0 (by simp)).1, (h2 0 (by simp)).2, rfl⟩, (lit_leads k hf hb l (a + 1) b).2 ⟨by simp at h1; omega, fun i hi => ?_⟩⟩
      have := h2 (i + 1) (by simpa using hi)
      rw [show a + (i + 1) = a + 1 + i by omega] at this
      exact this
theorem nxt_bytes (k : SCon) (hb : k.bytes = true) (a : Nat) (h : a < k.s.size) : (envS k).nxt a = some (a + 1) := by
  unfold envS
  simp only
  rw [if_pos h, hb, nextZ_in k.s a true h, if_pos rfl]
/-- Of bytes all places from one on. -/
theorem on_bytes (k : SCon) (hb : k.bytes = true) {o : Nat} (ho : o ≤ k.s.size) (a : Nat) : NOn (envS k) o a ↔ o ≤ a ∧ a ≤ k.s.size := by
  constructor
  · intro h
    induction h with
    | here => exact ⟨Nat.le_refl _, ho⟩
    | @next x y _ e ih =>
      by_cases q : x < k.s.size
      · rw [nxt_bytes k hb x q] at e
        injection e with e
        omega
      · unfold envS at e
        simp only at e
        rw [if_neg q] at e
        cases e
  · rintro ⟨h1, h2⟩
    obtain ⟨d, rfl⟩ : ∃ d, a = o + d := ⟨a - o, by omega⟩
    clear h1
    induction d with
    | zero => exact .here
    | succ d ih => exact .next (ih (by omega)) (nxt_bytes k hb _ (by omega))
theorem fines_chr : ∀ l : List UInt8, Tr.fines (l.map fun c => trC c.toNat)
  | [] => by rw [List.map_nil, Tr.fines]; trivial
  | c :: l => by
    rw [List.map_cons, Tr.fines]
    refine ⟨?_, fines_chr l⟩
    unfold trC
    rw [Tr.fine, Tr.fines]
    exact ⟨⟨by decide, fun h => absurd h (by decide)⟩, trivial⟩
theorem ends_chr (F : Int → Int → Bool → List (Int × Int) → Prop) (hF : ∀ c, F 2 c false []) : ∀ l : List UInt8, Tr.endsL F (l.map fun c => trC c.toNat)
  | [] => by rw [List.map_nil, Tr.endsL]; trivial
  | c :: l => by
    rw [List.map_cons, Tr.endsL]
    refine ⟨?_, ends_chr F hF l⟩
    unfold trC
    rw [Tr.ends, Tr.endsL]
    exact ⟨fun _ _ _ _ => hF _, trivial⟩
theorem fine_tog (l : List Tr) (h : Tr.fines l) : (togF 5 l).fine := by
  match l with
  | [] =>
    show (trK 1).fine
    unfold trK
    rw [Tr.fine, Tr.fines]
    exact ⟨⟨by decide, fun h => absurd h (by decide)⟩, trivial⟩
  | [t] =>
    rw [Tr.fines] at h
    exact h.1
  | t :: u :: r =>
    show (trN 5 (t :: u :: r)).fine
    unfold trN
    rw [Tr.fine]
    exact ⟨⟨by decide, fun h => absurd h (by decide)⟩, h⟩
theorem ends_tog (F : Int → Int → Bool → List (Int × Int) → Prop) (l : List Tr) (h : Tr.endsL F l) : (togF 5 l).ends F := by
  match l with
  | [] =>
    show (trK 1).ends F
    unfold trK
    rw [Tr.ends, Tr.endsL]
    exact ⟨fun h => absurd rfl h, trivial⟩
  | [t] =>
    rw [Tr.endsL] at h
    exact h.1
  | t :: u :: r =>
    show (trN 5 (t :: u :: r)).ends F
    unfold trN
    rw [Tr.ends]
    exact ⟨fun _ h => absurd rfl h, h⟩
/-- What a find of a text tells. -/
theorem lit_told (k : SCon) (hf : k.fold = false) (hb : k.bytes = true) (l : List UInt8) {o : Nat} (ho : o ≤ k.s.size) {found : Bool} {st en : Nat} (h : Told (NOn (envS k) o) ((togF 5 (l.map fun c => trC c.toNat)).leads (envS k)) found st en) :
    (found = true → o ≤ st ∧ en = st + l.length ∧ st ≤ k.s.size ∧ ∀ i (h : i < l.length), st + i < k.s.size ∧ k.s.get! (st + i) = l[i]) ∧
    ∀ a, o ≤ a → a ≤ k.s.size → (∀ i (h : i < l.length), a + i < k.s.size ∧ k.s.get! (a + i) = l[i]) → found = true ∧ st ≤ a := by
  refine ⟨fun q => ?_, fun a h1 h2 h3 => ?_⟩
  · obtain ⟨a1, a2⟩ := h.sure q
    obtain ⟨b1, b2⟩ := (on_bytes k hb ho st).1 a1
    rw [tog_leads] at a2
    obtain ⟨c1, c2⟩ := (lit_leads k hf hb l st en).1 a2
    exact ⟨b1, c1, b2, c2⟩
  · have := h.all a (a + l.length) ((on_bytes k hb ho a).2 ⟨h1, h2⟩) ((tog_leads _ _ _ _).2 ((lit_leads k hf hb l a _).2 ⟨rfl, h3⟩))
    exact ⟨this.1, by omega⟩
end Go.Proofs.YtdfacbcenogplaaDoor
