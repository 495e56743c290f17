/- Several texts in one (Plain: a pattern that stands within another one, ahead of a bracket, a stroke or the end, reads as by itself; Plain: two right patterns with a stroke between; brackets around one; Contracts of layer 9: nodes put together; what a struct that is handed back leaves; Contracts of layer 9: sets, and what stands behind a backslash; Contracts of layer 9: what stands behind a backslash (printed by tools/gen_marked.py)). -/
import Derived.Test.YtmfcofiihopbfaaDoorQj2
namespace Go.Proofs.YtmfcofiihopbfaaDoor
open Go.Lib

/-- s stands in t from o on; behind it comes c (0: nothing). -/
structure Emb (s t : ByteArray) (o c : Nat) : Prop where
  get : ∀ i, i < s.size → t.get! (o + i) = s.get! i
  fin : (c = 0 ∧ o + s.size = t.size) ∨ ((c = 124 ∨ c = 41) ∧ o + s.size < t.size ∧ (t.get! (o + s.size)).toNat = c)
theorem Emb.sz {s t : ByteArray} {o c : Nat} (h : Emb s t o c) : o + s.size ≤ t.size := by rcases h.fin with a | a <;> omega
theorem Emb.st1 {s t : ByteArray} {o c : Nat} (h : Emb s t o c) {i : Nat} (hi : i < s.size) (x : Nat) : st1 t (o + i) x = st1 s i x := by
  have := h.sz
  unfold Go.Proofs.YtmfcofiihopbfaaDoor.st1
  rw [h.get i hi]
  simp [hi, show o + i < t.size by omega]
theorem Emb.fin1 {s t : ByteArray} {o c : Nat} (h : Emb s t o c) (x : Nat) (hx : x ≠ 0) : Go.Proofs.YtmfcofiihopbfaaDoor.st1 t (o + s.size) x = decide (x = c) := by
  unfold Go.Proofs.YtmfcofiihopbfaaDoor.st1
  rcases h.fin with ⟨rfl, a⟩ | ⟨a1, a2, a3⟩
  · simp [hx, a]
  · rw [a3]
    simp only [a2, true_and, decide_eq_decide]
    omega
/-- A byte that may not be the one behind. -/
theorem Emb.st1' {s t : ByteArray} {o c : Nat} (h : Emb s t o c) {i : Nat} (hi : i ≤ s.size) (x : Nat) (hx : x ≠ 0 ∧ x ≠ 124 ∧ x ≠ 41) : Go.Proofs.YtmfcofiihopbfaaDoor.st1 t (o + i) x = Go.Proofs.YtmfcofiihopbfaaDoor.st1 s i x := by
  rcases Nat.lt_or_ge i s.size with h1 | h1
  · exact h.st1 h1 x
  · obtain rfl : i = s.size := by omega
    rw [h.fin1 x hx.1, st1_end, decide_eq_false_iff_not]
    rcases h.fin with a | a <;> omega
theorem Emb.st2' {s t : ByteArray} {o c : Nat} (h : Emb s t o c) {i : Nat} (hi : i ≤ s.size) (x y : Nat) (hx : x ≠ 0 ∧ x ≠ 124 ∧ x ≠ 41) (hy : y ≠ 0 ∧ y ≠ 124 ∧ y ≠ 41) : st2 t (o + i) x y = st2 s i x y := by
  have hz := h.sz
  have a := h.st1' hi x hx
  unfold Go.Proofs.YtmfcofiihopbfaaDoor.st1 at a
  rw [decide_eq_decide] at a
  unfold st2
  rw [decide_eq_decide]
  rcases Nat.lt_or_ge i s.size with h1 | h1
  · have b := h.st1' (i := i + 1) h1 y hy
    unfold Go.Proofs.YtmfcofiihopbfaaDoor.st1 at b
    rw [decide_eq_decide, show o + (i + 1) = o + i + 1 by omega] at b
    constructor
    · rintro ⟨k1, k2, k3⟩
      exact ⟨(b.1 ⟨k1, k3⟩).1, (a.1 ⟨by omega, k2⟩).2, (b.1 ⟨k1, k3⟩).2⟩
    · rintro ⟨k1, k2, k3⟩
      exact ⟨(b.2 ⟨k1, k3⟩).1, (a.2 ⟨by omega, k2⟩).2, (b.2 ⟨k1, k3⟩).2⟩
  · constructor
    · rintro ⟨k1, k2, k3⟩
      have := (a.1 ⟨by omega, k2⟩).1
      omega
    · rintro ⟨k1, k2, k3⟩
      omega
theorem Emb.dig {s t : ByteArray} {o c : Nat} (h : Emb s t o c) {i : Nat} (hi : i ≤ s.size) : rxDg t (o + i) = rxDg s i := by
  have hz := h.sz
  unfold rxDg
  rw [decide_eq_decide]
  rcases Nat.lt_or_ge i s.size with h1 | h1
  · rw [h.get i h1]
    constructor <;> (intro k; omega)
  · obtain rfl : i = s.size := by omega
    rcases h.fin with ⟨_, a⟩ | ⟨a1, a2, a3⟩
    · constructor <;> (intro k; omega)
    · rw [a3]
      constructor <;> (intro k; omega)
theorem Emb.num {s t : ByteArray} {o c : Nat} (h : Emb s t o c) : ∀ (f i n : Nat), s.size - i ≤ f → i ≤ s.size → numR t (o + i) n = ((numR s i n).1, o + (numR s i n).2)
  | 0, i, n, hf, hi => by
    have e : rxDg s i = false := by
      unfold rxDg
      rw [decide_eq_false_iff_not]
      omega
    rw [numR_stop s i n e, numR_stop t (o + i) n (by rw [h.dig hi]; exact e)]
  | f + 1, i, n, hf, hi => by
    cases e : rxDg s i with
    | false => rw [numR_stop s i n e, numR_stop t (o + i) n (by rw [h.dig hi]; exact e)]
    | true =>
      have hlt : i < s.size := (of_decide_eq_true e).1
      rw [numR_step s i n e, numR_step t (o + i) n (by rw [h.dig hi]; exact e), h.get i hlt, show o + i + 1 = o + (i + 1) by omega, Emb.num h f (i + 1) _ (by omega) hlt]
theorem Emb.num0 {s t : ByteArray} {o c : Nat} (h : Emb s t o c) {i : Nat} (hi : i ≤ s.size) : (numR t (o + i) 0).1 = (numR s i 0).1 ∧ (numR t (o + i) 0).2 = o + (numR s i 0).2 := by
  rw [h.num _ i 0 (Nat.le_refl _) hi]
  exact ⟨rfl, rfl⟩
theorem Emb.bnd {s t : ByteArray} {o c : Nat} (h : Emb s t o c) {i : Nat} (hi : i ≤ s.size) : bndF t (o + i) = (bndF s i).map fun q => (q.1, q.2.1, o + q.2.2) := by
  unfold bndF
  rw [h.st1' hi 123 (by omega)]
  cases e0 : Go.Proofs.YtmfcofiihopbfaaDoor.st1 s i 123 with
  | false => rfl
  | true =>
    have h1 := st1_lt e0
    obtain ⟨n1, n2⟩ := h.num0 (i := i + 1) h1
    have a := numR_in s (i + 1) h1
    rw [show o + i + 1 = o + (i + 1) by omega, n1, n2]
    generalize numR s (i + 1) 0 = r at a
    rw [h.st1' a.2.1 44 (by omega), h.st1' a.2.1 125 (by omega)]
    simp only [if_true, show (o + r.2 = o + (i + 1)) = (r.2 = i + 1) from propext (by omega)]
    by_cases e1 : r.2 = i + 1
    · rw [if_pos e1, if_pos e1]
      rfl
    rw [if_neg e1, if_neg e1]
    cases e2 : Go.Proofs.YtmfcofiihopbfaaDoor.st1 s r.2 44 with
    | true =>
      have h2 := st1_lt e2
      obtain ⟨m1, m2⟩ := h.num0 (i := r.2 + 1) h2
      have b := numR_in s (r.2 + 1) h2
      rw [show o + r.2 + 1 = o + (r.2 + 1) by omega, m1, m2]
      generalize numR s (r.2 + 1) 0 = q at b
      rw [h.st1' b.2.1 125 (by omega)]
      simp only [if_true, show (o + q.2 = o + (r.2 + 1)) = (q.2 = r.2 + 1) from propext (by omega)]
      cases Go.Proofs.YtmfcofiihopbfaaDoor.st1 s q.2 125
      · rfl
      · simp [show o + q.2 + 1 = o + (q.2 + 1) by omega]
    | false =>
      simp only [Bool.false_eq_true, if_false]
      cases Go.Proofs.YtmfcofiihopbfaaDoor.st1 s r.2 125
      · rfl
      · simp [show o + r.2 + 1 = o + (r.2 + 1) by omega]
def Rs.up {α : Type} (o : Nat) : Rs α → Rs α
  | .ok a k => .ok a (o + k)
  | .bad k e => .bad (o + k) e
theorem Emb.rep {s t : ByteArray} {o c : Nat} (h : Emb s t o c) {i : Nat} (hi : i ≤ s.size) : repF t (o + i) = (repF s i).map (Rs.up o) := by
  unfold repF
  rw [h.st1' hi 42 (by omega), h.st1' hi 43 (by omega), h.st1' hi 63 (by omega)]
  cases Go.Proofs.YtmfcofiihopbfaaDoor.st1 s i 42
  case true => simp [Rs.up, Nat.add_assoc]
  cases Go.Proofs.YtmfcofiihopbfaaDoor.st1 s i 43
  case true => simp [Rs.up, Nat.add_assoc]
  cases Go.Proofs.YtmfcofiihopbfaaDoor.st1 s i 63
  case true => simp [Rs.up, Nat.add_assoc]
  simp only [Bool.false_eq_true, if_false]
  unfold ivlF
  rw [h.bnd hi]
  cases bndF s i with
  | none => rfl
  | some q =>
    obtain ⟨lo, hi', k⟩ := q
    simp only [Option.map_some]
    split
    · rfl
    · split <;> rfl
theorem Emb.next {s t : ByteArray} {o c : Nat} (h : Emb s t o c) (b : Bool) {i : Nat} (hi : i < s.size) : nextZ t ((o + i : Nat) : Int) b = nextZ s (i : Int) b := by
  have hz := h.sz
  cases b with
  | true =>
    unfold nextZ
    rw [if_neg (show ¬ (((o + i : Nat) : Int) < 0 ∨ (t.size : Int) ≤ ((o + i : Nat) : Int)) by omega), if_neg (show ¬ ((i : Int) < 0 ∨ (s.size : Int) ≤ (i : Int)) by omega), Int.toNat_natCast, Int.toNat_natCast, h.get i hi]
    rfl
  | false =>
    refine next_local s t i (o + i) hi (by omega) (h.get i hi) (fun k hk hj => ?_) (fun k hk => ?_)
    · have key : ∀ k, (∀ j, j ≤ k → o + i + 1 + j < t.size ∧ (t.get! (o + i + 1 + j)).toNat / 64 = 2) → i + 1 + k < s.size := by
        intro k
        induction k with
        | zero =>
          intro hj
          rcases Nat.lt_or_ge (i + 1) s.size with h1 | h1
          · exact h1
          · have h2 := hj 0 (Nat.le_refl _)
            rcases h.fin with ⟨_, a⟩ | ⟨a1, a2, a3⟩
            · omega
            · rw [show o + i + 1 + 0 = o + s.size by omega, a3] at h2
              omega
        | succ k ih =>
          intro hj
          have h0 := ih (fun j hj' => hj j (by omega))
          rcases Nat.lt_or_ge (i + 1 + (k + 1)) s.size with h1 | h1
          · exact h1
          · have h2 := hj (k + 1) (Nat.le_refl _)
            rcases h.fin with ⟨_, a⟩ | ⟨a1, a2, a3⟩
            · omega
            · rw [show o + i + 1 + (k + 1) = o + s.size by omega, a3] at h2
              omega
      have h1 := key k hj
      refine ⟨h1, ?_⟩
      rw [← h.get _ h1]
      congr 1
      omega
    · have h1 := wid_in s false i hi
      refine ⟨by omega, ?_⟩
      rw [← h.get _ (by omega)]
      congr 1
      omega
/-- What is right there is right here, or, if 'big' may be, too big. -/
def RxUp {α : Type} (big : Prop) (o : Nat) (r r' : Rs α) : Prop := ∀ a k, r = .ok a k → r' = .ok a (o + k) ∨ (big ∧ ∃ p, r' = .bad p 91)
theorem index_app : ∀ (l m sub : List UInt8), 0 ≤ index l sub → index (l ++ m) sub = index l sub
  | [], m, sub, h => by
    unfold index at h
    split at h
    · rename_i he
      have : sub = [] := by simpa using he
      subst this
      cases m <;> rfl
    · omega
  | b :: l, m, sub, h => by
    rw [List.cons_append]
    unfold index at h ⊢
    by_cases hp : sub.isPrefixOf (b :: l) = true
    · have hp2 : sub.isPrefixOf (b :: (l ++ m)) = true := by
        rw [List.isPrefixOf_iff_prefix] at hp ⊢
        exact hp.trans (by rw [← List.cons_append]; exact List.prefix_append _ _)
      rw [if_pos hp, if_pos hp2]
    · rw [if_neg hp] at h ⊢
      have hl : 0 ≤ index l sub := by
        split at h
        · omega
        · rename_i hx
          have := index_ge l sub
          have : index l sub ≠ -1 := by simpa using hx
          omega
      have hp2 : ¬ sub.isPrefixOf (b :: (l ++ m)) = true := by
        intro hq
        apply hp
        rw [List.isPrefixOf_iff_prefix] at hq ⊢
        rcases index_spec l sub with ⟨e, _⟩ | ⟨p, e, hp', ho, _⟩
        · omega
        · have hlen : sub.length ≤ (b :: l).length := by
            unfold occAt at ho
            have := (List.isPrefixOf_iff_prefix.1 ho).length_le
            simp only [List.length_drop, List.length_cons] at this ⊢
            omega
          rw [← List.cons_append] at hq
          exact List.prefix_of_prefix_length_le hq (List.prefix_append _ _) hlen
      rw [if_neg hp2, index_app l m sub hl]
theorem Emb.drop {s t : ByteArray} {o c : Nat} (h : Emb s t o c) {i : Nat} (hi : i ≤ s.size) : ∃ m, t.data.toList.drop (o + i) = s.data.toList.drop i ++ m := by
  have hz := h.sz
  refine ⟨t.data.toList.drop (o + s.size), ?_⟩
  refine List.ext_getElem? fun j => ?_
  rw [List.getElem?_drop, List.getElem?_append]
  simp only [List.length_drop, ← Lib.size_eq]
  split
  · rename_i hj
    rw [List.getElem?_drop, rx_get s (i + j) (by omega), rx_get t (o + i + j) (by omega), Nat.add_assoc, h.get _ (by omega)]
  · rename_i hj
    rw [List.getElem?_drop]
    congr 1
    omega
theorem Emb.cls {s t : ByteArray} {o c : Nat} (h : Emb s t o c) {a a' i : Nat} (hi : i + 2 ≤ s.size) : RxUp False o (clsF s a i) (clsF t a' (o + i)) := by
  intro l k hk
  left
  unfold clsF at hk ⊢
  obtain ⟨m, hm⟩ := h.drop (i := i + 2) hi
  rw [show o + i + 2 = o + (i + 2) by omega, hm]
  generalize s.data.toList.drop (i + 2) = d at hk
  have hc : cut (d ++ m) [58, 93] = ((cut d [58, 93]).1, (cut d [58, 93]).2.1 ++ m, true) ∧ (cut d [58, 93]).2.2 = true := by
    unfold cut at hk ⊢
    by_cases hx : 0 ≤ index d [58, 93]
    · rw [index_app d m _ hx, if_pos hx, if_pos hx]
      rcases index_spec d [58, 93] with ⟨e, _⟩ | ⟨p, e, hp', ho, _⟩
      · omega
      · have hlen : p + 2 ≤ d.length := by
          unfold occAt at ho
          have := (List.isPrefixOf_iff_prefix.1 ho).length_le
          simp only [List.length_drop, List.length_cons, List.length_nil] at this
          omega
        rw [e, Int.toNat_natCast]
        simp only [List.length_cons, List.length_nil]
        rw [List.take_append_of_le_length (by omega), List.drop_append_of_le_length (by omega)]
        exact ⟨rfl, trivial⟩
    · rw [if_neg hx] at hk
      cases hk
  rw [hc.1]
  rw [hc.2] at hk
  simp only [if_true] at hk ⊢
  cases hcl : clsL (cut d [58, 93]).1 with
  | none => rw [hcl] at hk; cases hk
  | some l' =>
    rw [hcl] at hk
    cases hk
    simp only [Rs.ok.injEq, true_and]
    omega
theorem Emb.mem {s t : ByteArray} {o c : Nat} (h : Emb s t o c) (b : Bool) {a a' i : Nat} (hi : i ≤ s.size) : RxUp False o (memF s b a i) (memF t b a' (o + i)) := by
  intro x k hk
  left
  have hz := h.sz
  unfold memF at hk ⊢
  by_cases h0 : i = s.size
  · rw [if_pos h0] at hk
    cases hk
  rw [if_neg h0] at hk
  have hn := nx_in s b i (by omega)
  rw [if_neg (show ¬ o + i = t.size by omega), h.next b (show i < s.size by omega)]
  by_cases h1 : (nextZ s i b).1 = 92
  · rw [if_pos h1] at hk ⊢
    by_cases h2 : i + (nextZ s i b).2 = s.size
    · rw [if_pos h2] at hk
      cases hk
    · rw [if_neg h2] at hk
      rw [if_neg (show ¬ o + i + (nextZ s i b).2 = t.size by omega), show o + i + (nextZ s i b).2 = o + (i + (nextZ s i b).2) by omega, h.next b (show i + (nextZ s i b).2 < s.size by omega)]
      cases hm : meantF (nextZ s ((i + (nextZ s i b).2 : Nat) : Int) b).1 with
      | none => rw [hm] at hk; cases hk
      | some x' =>
        rw [hm] at hk
        cases hk
        simp only [Rs.ok.injEq, true_and]
        omega
  · rw [if_neg h1] at hk ⊢
    cases hk
    simp only [Rs.ok.injEq, true_and]
    omega
theorem Emb.itm {s t : ByteArray} {o c : Nat} (h : Emb s t o c) (b : Bool) {a a' i : Nat} (hi : i ≤ s.size) : RxUp False o (itmF s b a i) (itmF t b a' (o + i)) := by
  intro x k hk
  left
  unfold itmF at hk ⊢
  rw [h.st2' hi 91 58 (by omega) (by omega)]
  cases h0 : st2 s i 91 58 with
  | true =>
    rw [h0] at hk
    simp only [if_true] at hk ⊢
    rcases h.cls (by have := st2_lt h0; omega) x k hk with e | e
    · exact e
    · exact e.1.elim
  | false =>
    rw [h0] at hk
    simp only [Bool.false_eq_true, if_false] at hk ⊢
    cases hm : memF s b a i with
    | bad k' e => rw [hm] at hk; cases hk
    | ok lo k1 =>
      rw [hm] at hk
      have hb := mem_in hi hm
      rcases h.mem b (a' := a') hi lo k1 hm with e | e
      · rw [e]
        simp only at hk ⊢
        rw [h.st2' hb.2 45 93 (by omega) (by omega), h.st1' hb.2 45 (by omega)]
        cases h1 : (!st2 s k1 45 93 && Go.Proofs.YtmfcofiihopbfaaDoor.st1 s k1 45) with
        | false =>
          rw [h1] at hk
          simp only [Bool.false_eq_true, if_false] at hk ⊢
          cases hk
          rfl
        | true =>
          rw [h1] at hk
          rw [Bool.and_eq_true] at h1
          have h2 := st1_lt h1.2
          simp only [if_true] at hk ⊢
          rw [show o + k1 + 1 = o + (k1 + 1) by omega, h.st2' (i := k1 + 1) h2 91 58 (by omega) (by omega)]
          cases h3 : st2 s (k1 + 1) 91 58 with
          | true => rw [h3] at hk; cases hk
          | false =>
            rw [h3] at hk
            simp only [Bool.false_eq_true, if_false] at hk ⊢
            cases hm2 : memF s b a (k1 + 1) with
            | bad k' e => rw [hm2] at hk; cases hk
            | ok hi2 k2 =>
              rw [hm2] at hk
              rcases h.mem b (a' := a') (i := k1 + 1) h2 hi2 k2 hm2 with e | e
              · rw [e]
                simp only at hk ⊢
                split at hk
                · cases hk
                · rename_i hlt
                  rw [if_neg hlt]
                  cases hk
                  rfl
              · exact e.1.elim
      · exact e.1.elim
theorem Emb.set {s t : ByteArray} {o c : Nat} (h : Emb s t o c) (b : Bool) {a a' : Nat} : ∀ (f f' : Nat) (first : Bool) (i : Nat) (acc : List (Int × Int)), f ≤ f' → i ≤ s.size → RxUp False o (setF s b a f first i acc) (setF t b a' f' first (o + i) acc)
  | 0, _, _, _, _, _, _ => by
    intro x k hk
    rw [setF] at hk
    cases hk
  | f + 1, f', first, i, acc, hf, hi => by
    intro x k hk
    left
    obtain ⟨g, rfl⟩ : ∃ g, f' = g + 1 := ⟨f' - 1, by omega⟩
    rw [setF] at hk ⊢
    rw [h.st1' hi 93 (by omega)]
    cases h0 : (!first && Go.Proofs.YtmfcofiihopbfaaDoor.st1 s i 93) with
    | true =>
      rw [h0] at hk
      simp only [if_true] at hk ⊢
      cases hk
      rfl
    | false =>
      rw [h0] at hk
      simp only [Bool.false_eq_true, if_false] at hk ⊢
      cases hm : itmF s b a i with
      | bad k' e => rw [hm] at hk; cases hk
      | ok l k1 =>
        rw [hm] at hk
        have hb := itm_in hi hm
        rcases h.itm b (a' := a') hi l k1 hm with e | e
        · rw [e]
          rcases Emb.set h b f g false k1 (acc ++ l) (by omega) hb.2 x k hk with e | e
          · exact e
          · exact e.1.elim
        · exact e.1.elim
theorem Emb.brk {s t : ByteArray} {o c : Nat} (h : Emb s t o c) (b : Bool) {a a' i : Nat} (hi : i ≤ s.size) : RxUp False o (brkF s b a i) (brkF t b a' (o + i)) := by
  intro x k hk
  left
  have hz := h.sz
  unfold brkF at hk ⊢
  rw [h.st1' hi 94 (by omega)]
  have e : (if Go.Proofs.YtmfcofiihopbfaaDoor.st1 s i 94 = true then o + i + 1 else o + i) = o + (if Go.Proofs.YtmfcofiihopbfaaDoor.st1 s i 94 = true then i + 1 else i) := by
    split <;> omega
  have hi2 : (if Go.Proofs.YtmfcofiihopbfaaDoor.st1 s i 94 = true then i + 1 else i) ≤ s.size := by
    split
    · rename_i h1
      exact st1_lt h1
    · exact hi
  rw [e]
  cases hm : setF s b a (s.size + 1) true (if Go.Proofs.YtmfcofiihopbfaaDoor.st1 s i 94 = true then i + 1 else i) [] with
  | bad k' e => rw [hm] at hk; cases hk
  | ok l k1 =>
    rw [hm] at hk
    rcases h.set b (a' := a') (s.size + 1) (t.size + 1) true _ [] (by omega) hi2 l k1 hm with e | e
    · rw [e]
      cases hk
      rfl
    · exact e.1.elim
theorem Emb.mrk {s t : ByteArray} {o c : Nat} (h : Emb s t o c) (b : Bool) {a a' i : Nat} (hi : i ≤ s.size) : RxUp False o (mrkF s b a i) (mrkF t b a' (o + i)) := by
  intro x k hk
  left
  have hz := h.sz
  unfold mrkF at hk ⊢
  by_cases h0 : i = s.size
  · rw [if_pos h0] at hk
    cases hk
  rw [if_neg h0] at hk
  rw [if_neg (show ¬ o + i = t.size by omega), h.next b (show i < s.size by omega)]
  generalize nextZ s i b = z at hk
  iterate 10
    rcases ite_or hk with ⟨h1, hk⟩ | ⟨h1, hk⟩
    · rw [if_pos h1]
      cases hk
      rw [Nat.add_assoc]
    rw [if_neg h1]
  cases hm : meantF z.1 with
  | none => rw [hm] at hk; cases hk
  | some x' =>
    rw [hm] at hk
    cases hk
    rw [Nat.add_assoc]
def GrpUp (s : ByteArray) (big : Prop) (o : Nat) (grp grp' : Nat → Nat → Rs Tr) : Prop := ∀ a i, i ≤ s.size → RxUp big o (grp a i) (grp' (o + a) (o + i))
theorem RxUp.weak {α : Type} {big : Prop} {o : Nat} {r r' : Rs α} (h : RxUp False o r r') : RxUp big o r r' := fun a k hk => by
  rcases h a k hk with e | e
  · exact .inl e
  · exact e.1.elim
theorem Emb.node {s t : ByteArray} {o c : Nat} (h : Emb s t o c) (b : Bool) {big : Prop} {grp grp' : Nat → Nat → Rs Tr} (hg : GrpUp s big o grp grp') {i : Nat} (hi : i < s.size) : RxUp big o (nodeF grp s b i) (nodeF grp' t b (o + i)) := by
  have hn := nx_in s b i hi
  unfold nodeF
  rw [h.next b hi, Nat.add_assoc]
  by_cases h1 : (nextZ s i b).1 = 40
  · rw [if_pos h1, if_pos h1]
    exact hg _ _ hn.2
  rw [if_neg h1, if_neg h1]
  by_cases h2 : (nextZ s i b).1 = 91
  · rw [if_pos h2, if_pos h2]
    exact (h.brk b hn.2).weak
  rw [if_neg h2, if_neg h2]
  by_cases h3 : (nextZ s i b).1 = 92
  · rw [if_pos h3, if_pos h3]
    exact (h.mrk b hn.2).weak
  rw [if_neg h3, if_neg h3]
  generalize nextZ s i b = z
  intro x k hk
  left
  iterate 3
    rcases ite_or hk with ⟨h1, hk⟩ | ⟨h1, hk⟩
    · rw [if_pos h1]
      cases hk
      rfl
    rw [if_neg h1]
  cases hk
  rfl
theorem Emb.rowE {s t : ByteArray} {o c : Nat} (h : Emb s t o c) {i : Nat} (hi : i ≤ s.size) : Go.Proofs.YtmfcofiihopbfaaDoor.rowE t (o + i) ↔ Go.Proofs.YtmfcofiihopbfaaDoor.rowE s i := by
  have hz := h.sz
  unfold Go.Proofs.YtmfcofiihopbfaaDoor.rowE
  rcases Nat.lt_or_ge i s.size with h1 | h1
  · rw [h.st1 h1, h.st1 h1]
    simp only [show (o + i = t.size) = (i = s.size) from propext (by omega)]
  · obtain rfl : i = s.size := by omega
    rw [h.fin1 124 (by omega), h.fin1 41 (by omega)]
    simp only [true_or, iff_true, decide_eq_true_eq]
    rcases h.fin with a | a <;> omega
theorem Emb.row {s t : ByteArray} {o c : Nat} (h : Emb s t o c) (b : Bool) {big : Prop} {grp grp' : Nat → Nat → Rs Tr} (hgi : GrpIn s grp) (hg : GrpUp s big o grp grp') : ∀ (f f' i : Nat) (kids : List Tr), f ≤ f' → i ≤ s.size → RxUp big o (rowF grp s b f i kids) (rowF grp' t b f' (o + i) kids)
  | 0, _, _, _, _, _ => by
    intro x k hk
    rw [rowF] at hk
    cases hk
  | f + 1, f', i, kids, hf, hi => by
    obtain ⟨g, rfl⟩ : ∃ g, f' = g + 1 := ⟨f' - 1, by omega⟩
    intro x k hk
    by_cases he : Go.Proofs.YtmfcofiihopbfaaDoor.rowE s i
    · rw [row_end he] at hk
      rw [row_end ((h.rowE hi).2 he)]
      cases hk
      exact .inl rfl
    have he' : ¬ Go.Proofs.YtmfcofiihopbfaaDoor.rowE t (o + i) := fun hx => he ((h.rowE hi).1 hx)
    have hlt : i < s.size := by
      unfold Go.Proofs.YtmfcofiihopbfaaDoor.rowE at he
      omega
    have nd : ∀ kids, (kids = [] ∨ repF s i = none) → rowF grp s b (f + 1) i kids = .ok x k → rowF grp' t b (g + 1) (o + i) kids = .ok x (o + k) ∨ (big ∧ ∃ p, rowF grp' t b (g + 1) (o + i) kids = .bad p 91) := fun kids hr hk => by
      have hr' : kids = [] ∨ repF t (o + i) = none := by
        rcases hr with hr | hr
        · exact .inl hr
        · rw [h.rep hi, hr]
          exact .inr rfl
      cases hn : nodeF grp s b i with
      | bad k' e => rw [row_nodebad he hr hn] at hk; cases hk
      | ok t' k' =>
        rw [row_node he hr hn] at hk
        have h1 := node_in hgi hlt hn
        rcases h.node b hg hlt t' k' hn with e | ⟨e0, p, e⟩
        · rw [row_node he' hr' e]
          exact Emb.row h b hgi hg f g k' _ (by omega) h1.2 x k hk
        · rw [row_nodebad he' hr' e]
          exact .inr ⟨e0, p, rfl⟩
    rcases List.eq_nil_or_concat kids with rfl | ⟨ks, u, rfl⟩
    · exact nd _ (.inl rfl) hk
    rw [List.concat_eq_append] at hk ⊢
    cases hr : repF s i with
    | none => exact nd _ (.inr hr) hk
    | some q =>
      cases q with
      | bad k' e => rw [row_repbad he hr] at hk; cases hk
      | ok r k' =>
        have hr' : repF t (o + i) = some (.ok r (o + k')) := by
          rw [h.rep hi, hr]
          rfl
        rw [row_rep he hr] at hk
        rw [row_rep he' hr']
        have h1 := rep_in hr
        exact Emb.row h b hgi hg f g k' _ (by omega) h1.2 x k hk
/-- A choice that ends ahead of a bracket or of the end. -/
theorem Emb.ch {s t : ByteArray} {o c : Nat} (h : Emb s t o c) (b : Bool) {big : Prop} {grp grp' : Nat → Nat → Rs Tr} (hgi : GrpIn s grp) (hg : GrpUp s big o grp grp') : ∀ (f f' i : Nat) (kids : List Tr), f ≤ f' → i ≤ s.size →
    ∀ x k, chF grp s b f i kids = .ok x k → (c = 124 → k < s.size) → chF grp' t b f' (o + i) kids = .ok x (o + k) ∨ (big ∧ ∃ p, chF grp' t b f' (o + i) kids = .bad p 91)
  | 0, _, _, _, _, _ => by
    intro x k hk
    rw [chF] at hk
    cases hk
  | f + 1, f', i, kids, hf, hi => by
    obtain ⟨g, rfl⟩ : ∃ g, f' = g + 1 := ⟨f' - 1, by omega⟩
    intro x k hk hc
    have hz := h.sz
    rw [chF] at hk ⊢
    cases hr : rowF grp s b (s.size + 1) i [] with
    | bad k' e => rw [hr] at hk; cases hk
    | ok t' k' =>
      rw [hr] at hk
      have h1 := row_in hgi hi hr
      rcases h.row b hgi hg (s.size + 1) (t.size + 1) i [] (by omega) hi t' k' hr with e | ⟨e0, p, e⟩
      · rw [e]
        simp only at hk ⊢
        cases h2 : Go.Proofs.YtmfcofiihopbfaaDoor.st1 s k' 124 with
        | true =>
          rw [h2] at hk
          have h3 := st1_lt h2
          rw [h.st1 h3, h2]
          simp only [if_true] at hk ⊢
          rw [Nat.add_assoc]
          exact Emb.ch h b hgi hg f g (k' + 1) _ (by omega) h3 x k hk hc
        | false =>
          rw [h2] at hk
          simp only [Bool.false_eq_true, if_false] at hk
          cases hk
          have h4 : Go.Proofs.YtmfcofiihopbfaaDoor.st1 t (o + k) 124 = false := by
            rcases Nat.lt_or_ge k s.size with h5 | h5
            · rw [h.st1 h5, h2]
            · obtain rfl : k = s.size := by omega
              rw [h.fin1 124 (by omega), decide_eq_false_iff_not]
              intro he
              have := hc he.symm
              omega
          rw [h4]
          exact .inl rfl
      · rw [e]
        exact .inr ⟨e0, p, rfl⟩
theorem Emb.grp {s t : ByteArray} {o c : Nat} (h : Emb s t o c) (b : Bool) {big : Prop} : ∀ d d', (big ∨ d ≤ d') → GrpUp s big o (grpF s b d) (grpF t b d')
  | 0, _, _ => by
    intro a i _ x k hk
    rw [grpF] at hk
    cases hk
  | d + 1, 0, hd => by
    intro a i hi x k hk
    rcases hd with hd | hd
    · rw [grpF]
      exact .inr ⟨hd, _, rfl⟩
    · omega
  | d + 1, d' + 1, hd => by
    intro a i hi x k hk
    have hg := Emb.grp h b d d' (hd.imp id (fun x => by omega))
    have hz := h.sz
    rw [grpF] at hk ⊢
    cases hr : chF (grpF s b d) s b (s.size + 1) i [] with
    | bad k' e => rw [hr] at hk; cases hk
    | ok t' k' =>
      rw [hr] at hk
      simp only at hk
      cases h2 : Go.Proofs.YtmfcofiihopbfaaDoor.st1 s k' 41 with
      | false => rw [h2] at hk; cases hk
      | true =>
        rw [h2] at hk
        simp only [if_true] at hk
        cases hk
        have h3 := st1_lt h2
        rcases h.ch b (grp_in s b d) hg (s.size + 1) (t.size + 1) i [] (by omega) hi _ _ hr (fun _ => h3) with e | ⟨e0, p, e⟩
        · rw [e]
          simp only
          rw [h.st1 h3, h2]
          exact .inl rfl
        · rw [e]
          exact .inr ⟨e0, p, rfl⟩
end Go.Proofs.YtmfcofiihopbfaaDoor

namespace Go.Proofs.YtmfcofiihopbfaaDoor
open Go.Lib

theorem tog_one (kind : Int) (t : Tr) : togF kind [t] = t := rfl
theorem tog_two (kind : Int) : ∀ l : List Tr, 2 ≤ l.length → togF kind l = trN kind l
  | [], h => by simp at h
  | [_], h => by simp at h
  | _ :: _ :: _, _ => rfl
theorem ch_kids {grp : Nat → Nat → Rs Tr} {s : ByteArray} {b : Bool} : ∀ {f i : Nat} {kids : List Tr} {x : Tr} {k : Nat}, chF grp s b f i kids = .ok x k →
    ∃ ts, ts ≠ [] ∧ x = togF 6 (kids ++ ts) ∧ ∀ kids', chF grp s b f i kids' = .ok (togF 6 (kids' ++ ts)) k
  | 0, _, _, _, _, h => by rw [chF] at h; cases h
  | f + 1, i, kids, x, k, h => by
    rw [chF] at h
    cases hr : rowF grp s b (s.size + 1) i [] with
    | bad k' e => rw [hr] at h; cases h
    | ok t' k' =>
      rw [hr] at h
      simp only at h
      cases h2 : st1 s k' 124 with
      | true =>
        rw [h2] at h
        simp only [if_true] at h
        obtain ⟨ts, h3, h4, h5⟩ := ch_kids h
        refine ⟨t' :: ts, by simp, by rw [h4]; simp, fun kids' => ?_⟩
        rw [chF, hr]
        simp only [h2, if_true]
        rw [h5]
        simp
      | false =>
        rw [h2] at h
        simp only [Bool.false_eq_true, if_false] at h
        cases h
        refine ⟨[t'], by simp, rfl, fun kids' => ?_⟩
        rw [chF, hr]
        simp only [h2, Bool.false_eq_true, if_false]
/-- A choice that ends ahead of a stroke goes on behind it. -/
theorem Emb.chOn {s t : ByteArray} {o : Nat} (h : Emb s t o 124) (b : Bool) {grp grp' : Nat → Nat → Rs Tr} (hgi : GrpIn s grp) (hg : GrpUp s False o grp grp') : ∀ (f f' i : Nat) (kids : List Tr) (x : Tr), t.size - (o + i) < f' → i ≤ s.size →
    chF grp s b f i kids = .ok x s.size → ∃ ts g, ts ≠ [] ∧ x = togF 6 (kids ++ ts) ∧ t.size - (o + s.size + 1) < g ∧ chF grp' t b f' (o + i) kids = chF grp' t b g (o + s.size + 1) (kids ++ ts)
  | 0, _, _, _, _, _, _, hk => by rw [chF] at hk; cases hk
  | f + 1, f', i, kids, x, hf, hi, hk => by
    obtain ⟨g, rfl⟩ : ∃ g, f' = g + 1 := ⟨f' - 1, by omega⟩
    have hz := h.sz
    have hz2 : o + s.size < t.size := by
      rcases h.fin with a | a
      · omega
      · exact a.2.1
    rw [chF] at hk ⊢
    cases hr : rowF grp s b (s.size + 1) i [] with
    | bad k' e => rw [hr] at hk; cases hk
    | ok t' k' =>
      rw [hr] at hk
      have h1 := row_in hgi hi hr
      rcases h.row b hgi hg (s.size + 1) (t.size + 1) i [] (by omega) hi t' k' hr with e | e
      · rw [e]
        simp only at hk ⊢
        cases h2 : Go.Proofs.YtmfcofiihopbfaaDoor.st1 s k' 124 with
        | true =>
          rw [h2] at hk
          have h3 := st1_lt h2
          rw [h.st1 h3, h2]
          simp only [if_true] at hk ⊢
          obtain ⟨ts, g', h4, h5, h6, h7⟩ := Emb.chOn h b hgi hg f g (k' + 1) _ x (by omega) h3 hk
          refine ⟨t' :: ts, g', by simp, by rw [h5]; simp, h6, ?_⟩
          rw [Nat.add_assoc o k' 1, h7]
          simp
        | false =>
          rw [h2] at hk
          simp only [Bool.false_eq_true, if_false] at hk
          cases hk
          rw [h.fin1 124 (by omega)]
          exact ⟨[t'], g, by simp, rfl, by omega, rfl⟩
      · exact e.1.elim
/-- Every fault is one of two. -/
def Er {α : Type} (r : Rs α) : Prop := ∀ k e, r = .bad k e → e = 90 ∨ e = 91
theorem er_ok {α : Type} (a : α) (k : Nat) : Er (Rs.ok a k) := fun _ _ h => by cases h
theorem er_90 {α : Type} (k : Nat) : Er (Rs.bad k 90 : Rs α) := fun _ _ h => by cases h; exact .inl rfl
theorem er_91 {α : Type} (k : Nat) : Er (Rs.bad k 91 : Rs α) := fun _ _ h => by cases h; exact .inr rfl
theorem er_rep (s : ByteArray) (i : Nat) (r : Rs (Int × Int)) (h : repF s i = some r) : Er r := by
  unfold repF at h
  iterate 3
    rcases ite_or h with ⟨_, h⟩ | ⟨_, h⟩
    · cases h
      exact er_ok _ _
  unfold ivlF at h
  split at h
  · cases h
  · cases h
    split
    · exact er_91 _
    · split
      · exact er_ok _ _
      · exact er_90 _
theorem er_mem (s : ByteArray) (b : Bool) (a i : Nat) : Er (memF s b a i) := by
  unfold memF
  split
  · exact er_90 _
  split
  · split
    · exact er_90 _
    split
    · exact er_90 _
    · exact er_ok _ _
  · exact er_ok _ _
theorem er_itm (s : ByteArray) (b : Bool) (a i : Nat) : Er (itmF s b a i) := by
  unfold itmF
  split
  · unfold clsF
    split
    · split
      · exact er_90 _
      · exact er_ok _ _
    · exact er_90 _
  split
  · rename_i k e hm
    intro k' e' h
    exact er_mem s b a i k' e' (by rw [hm]; cases h; rfl)
  rename_i lo k hm
  split
  · split
    · exact er_90 _
    split
    · rename_i k e hm
      intro k' e' h
      exact er_mem s b a _ k' e' (by rw [hm]; cases h; rfl)
    · split
      · exact er_90 _
      · exact er_ok _ _
  · exact er_ok _ _
theorem er_set (s : ByteArray) (b : Bool) (a : Nat) : ∀ f first i acc, Er (setF s b a f first i acc)
  | 0, _, _, _ => by unfold setF; exact er_90 _
  | f + 1, first, i, acc => by
    unfold setF
    split
    · exact er_ok _ _
    split
    · rename_i k e hm
      intro k' e' h
      exact er_itm s b a _ k' e' (by rw [hm]; cases h; rfl)
    · exact er_set s b a f _ _ _
theorem er_mrk (s : ByteArray) (b : Bool) (a i : Nat) : Er (mrkF s b a i) := by
  intro k e h
  unfold mrkF at h
  rcases ite_or h with ⟨_, h⟩ | ⟨_, h⟩
  · cases h
    exact .inl rfl
  iterate 10
    rcases ite_or h with ⟨_, h⟩ | ⟨_, h⟩
    · cases h
  split at h
  · cases h
    exact .inl rfl
  · cases h
theorem er_node {grp : Nat → Nat → Rs Tr} (hg : ∀ a i, Er (grp a i)) (s : ByteArray) (b : Bool) (i : Nat) : Er (nodeF grp s b i) := by
  unfold nodeF
  split
  · exact hg _ _
  split
  · unfold brkF
    split
    · rename_i k e hm
      intro k' e' h
      exact er_set s b _ _ _ _ _ k' e' (by rw [hm]; cases h; rfl)
    · exact er_ok _ _
  split
  · exact er_mrk _ _ _ _
  repeat' split
  all_goals exact er_ok _ _
theorem er_row {grp : Nat → Nat → Rs Tr} (hg : ∀ a i, Er (grp a i)) (s : ByteArray) (b : Bool) : ∀ f i kids, Er (rowF grp s b f i kids)
  | 0, _, _ => by unfold rowF; exact er_90 _
  | f + 1, i, kids => by
    unfold rowF
    split
    · exact er_ok _ _
    split
    · rename_i k e _ hr
      intro k' e' h
      exact er_rep s i _ hr k' e' (by cases h; rfl)
    · exact er_row hg s b f _ _
    · split
      · rename_i k e hn
        intro k' e' h
        exact er_node hg s b i k' e' (by rw [hn]; cases h; rfl)
      · exact er_row hg s b f _ _
theorem er_ch {grp : Nat → Nat → Rs Tr} (hg : ∀ a i, Er (grp a i)) (s : ByteArray) (b : Bool) : ∀ f i kids, Er (chF grp s b f i kids)
  | 0, _, _ => by unfold chF; exact er_90 _
  | f + 1, i, kids => by
    unfold chF
    split
    · rename_i k e hn
      intro k' e' h
      exact er_row hg s b _ i [] k' e' (by rw [hn]; cases h; rfl)
    · split
      · exact er_ch hg s b f _ _
      · exact er_ok _ _
theorem er_grp (s : ByteArray) (b : Bool) : ∀ d a i, Er (grpF s b d a i)
  | 0, _, _ => by unfold grpF; exact er_91 _
  | d + 1, a, i => by
    unfold grpF
    split
    · rename_i k e hn
      intro k' e' h
      exact er_ch (er_grp s b d) s b _ i [] k' e' (by rw [hn]; cases h; rfl)
    · split
      · exact er_ok _ _
      · exact er_90 _
theorem parse_open {s : ByteArray} {x : Tr} {p : Nat} (h : rxParse s false = (x, p, 0)) : chD s false 40 0 = .ok x s.size ∧ x.wt ≤ 200 ∧ s.size ≤ 1024 ∧ p = 0 := by
  unfold rxParse at h
  split at h
  · simp at h
  rename_i h0
  split at h
  · rename_i k e hc
    simp only [Prod.mk.injEq] at h
    have := er_ch (er_grp s false 40) s false _ _ _ k e hc
    omega
  · rename_i t k hc
    split at h
    · rename_i hk
      split at h
      · simp at h
      · rename_i hw
        simp only [Prod.mk.injEq, and_true] at h
        obtain ⟨rfl, rfl⟩ := h
        subst hk
        exact ⟨hc, by omega, by omega, rfl⟩
    · simp at h
theorem parse_shut {s : ByteArray} {x : Tr} (h : chD s false 40 0 = .ok x s.size) (hz : s.size ≤ 1024) : rxParse s false = if 200 < x.wt then (trZ, 0, 91) else (x, 0, 0) := by
  unfold rxParse
  rw [if_neg (by omega), h]
  simp only [if_true]
theorem emb_of {s t : ByteArray} {l m : List UInt8} {c : Nat} (h : t.data.toList = l ++ (s.data.toList ++ m)) (hc : (c = 0 ∧ m = []) ∨ ((c = 124 ∨ c = 41) ∧ ∃ x r, m = x :: r ∧ x.toNat = c)) : Emb s t l.length c := by
  have hz : t.size = l.length + (s.size + m.length) := by
    rw [Lib.size_eq, h, List.length_append, List.length_append, ← Lib.size_eq]
  have ht : ∀ j, j < s.size + m.length → (s.data.toList ++ m)[j]? = some (t.get! (l.length + j)) := fun j hj => by
    have := rx_get t (l.length + j) (by omega)
    rw [h, List.getElem?_append_right (by omega), show l.length + j - l.length = j by omega] at this
    exact this
  refine ⟨fun i hi => ?_, ?_⟩
  · have h1 := ht i (by omega)
    rw [List.getElem?_append_left (by rw [← Lib.size_eq]; exact hi), rx_get s i hi] at h1
    exact (Option.some.inj h1).symm
  · rcases hc with ⟨rfl, rfl⟩ | ⟨hc, x, r, rfl, hx⟩
    · left
      simp at hz
      exact ⟨rfl, by omega⟩
    · right
      simp only [List.length_cons] at hz ht
      refine ⟨hc, by omega, ?_⟩
      have h1 := ht s.size (by omega)
      rw [List.getElem?_append_right (by rw [← Lib.size_eq]; exact Nat.le_refl _), ← Lib.size_eq, Nat.sub_self] at h1
      simp at h1
      rw [← h1, hx]
/-- Brackets around a right pattern change nothing, or are one too many. -/
theorem join_group {s t : ByteArray} {x : Tr} {p : Nat} (h : rxParse s false = (x, p, 0)) (hs : s.size ≤ 900) (ht : t.data.toList = 40 :: (s.data.toList ++ [41])) :
    rxParse t false = (x, 0, 0) ∨ ∃ p, rxParse t false = (trZ, p, 91) := by
  obtain ⟨h1, h2, _, _⟩ := parse_open h
  have E : Emb s t 1 41 := emb_of (l := [40]) (m := [41]) (by rw [ht]; rfl) (.inr ⟨.inr rfl, 41, [], rfl, rfl⟩)
  have hz : t.size = s.size + 2 := by
    rw [Lib.size_eq, ht]
    simp
  obtain ⟨g1, g2, _⟩ := get_of_drop (s := t) (i := 0) (c := 40) (l := s.data.toList ++ [41]) (by rw [List.drop_zero]; exact ht)
  have g3 : (t.get! 0).toNat = 40 := by rw [g2]; rfl
  have st : ∀ d, d ≠ 40 → st1 t 0 d = false := fun d hd => by
    unfold st1
    rw [g3, decide_eq_false_iff_not]
    omega
  have he : ¬ rowE t 0 := by
    unfold rowE
    rw [st 124 (by omega), st 41 (by omega)]
    simp
    omega
  have hn : nodeF (grpF t false 40) t false 0 = grpF t false 40 0 1 := by
    unfold nodeF
    have := nx_asc t 0 false g1 (by omega)
    rw [Int.natCast_zero] at this
    rw [Int.natCast_zero, this, g3, if_pos rfl]
    rfl
  have e41 : st1 t (1 + s.size) 41 = true := by
    rw [E.fin1 41 (by omega)]
    rfl
  have eend : rowE t (1 + s.size + 1) := .inl (by omega)
  obtain ⟨g, hg⟩ : ∃ g, t.size = g + 1 := ⟨t.size - 1, by omega⟩
  rcases E.ch false (big := True) (grp_in s false 40) (E.grp false 40 39 (.inl trivial)) (s.size + 1) (t.size + 1) 0 [] (by omega) (Nat.zero_le _) x s.size h1 (fun e => by cases e) with e | ⟨_, p, e⟩
  · have h3 : grpF t false 40 0 1 = .ok x (1 + s.size + 1) := by
      rw [grpF]
      rw [Nat.add_zero] at e
      rw [e]
      simp only [e41, if_true]
    have h4 : rowF (grpF t false 40) t false (t.size + 1) 0 [] = .ok x (1 + s.size + 1) := by
      rw [row_node he (.inl rfl) (hn.trans h3), hg, row_end eend]
      rfl
    left
    rw [parse_shut (x := x) ?_ (by omega), if_neg (by omega)]
    unfold chD
    rw [chF, h4]
    simp only
    rw [show 1 + s.size + 1 = t.size by omega, st1_end]
    rfl
  · right
    have h3 : grpF t false 40 0 1 = .bad p 91 := by
      rw [grpF]
      rw [Nat.add_zero] at e
      rw [e]
    have h4 : rowF (grpF t false 40) t false (t.size + 1) 0 [] = .bad p 91 := row_nodebad he (.inl rfl) (hn.trans h3)
    refine ⟨p, ?_⟩
    unfold rxParse chD
    rw [if_neg (by omega), chF, h4]
theorem wts_app : ∀ (l m : List Tr) (a : Int), Tr.wts a (l ++ m) = Tr.wts (Tr.wts a l) m
  | [], _, _ => by rw [List.nil_append, Tr.wts]
  | t :: l, m, a => by rw [List.cons_append, Tr.wts, wts_app l m, Tr.wts]
theorem wts_le : ∀ (l : List Tr) (a b : Int), 0 ≤ a → 0 ≤ b → Tr.wts (a + b) l ≤ Tr.wts a l + b ∧ Tr.wts a l ≤ Tr.wts (a + b) l
  | [], a, b, _, _ => by rw [Tr.wts, Tr.wts]; omega
  | t :: l, a, b, ha, hb => by
    have ht := wt_in t
    rw [Tr.wts, Tr.wts]
    have h1 := wts_le l (min (a + t.wt) 1048576) (min (a + b + t.wt) 1048576 - min (a + t.wt) 1048576) (by omega) (by omega)
    rw [show min (a + t.wt) 1048576 + (min (a + b + t.wt) 1048576 - min (a + t.wt) 1048576) = min (a + b + t.wt) 1048576 by omega] at h1
    omega
theorem wt_tog (ts : List Tr) (h : ts ≠ []) : Tr.wts 0 ts ≤ (togF 6 ts).wt := by
  match ts, h with
  | [t], _ =>
    have := wt_in t
    rw [tog_one, Tr.wts, Tr.wts]
    omega
  | a :: b :: l, _ =>
    have := wts_in (a :: b :: l) 0 (Int.le_refl _) (by omega)
    rw [tog_two 6 _ (by simp), trN, Tr.wt, if_neg (by decide), if_neg (by decide)]
    omega
/-- Two right patterns with a stroke between are the choice of both's alternatives, or weigh too much. -/
theorem join_alt {s1 s2 t : ByteArray} {x y : Tr} {p q : Nat} (h1 : rxParse s1 false = (x, p, 0)) (h2 : rxParse s2 false = (y, q, 0)) (hs : s1.size + s2.size ≤ 900) (ht : t.data.toList = s1.data.toList ++ (124 :: s2.data.toList)) :
    ∃ us bs, us ≠ [] ∧ bs ≠ [] ∧ x = togF 6 us ∧ y = togF 6 bs ∧ (rxParse t false = (trN 6 (us ++ bs), 0, 0) ∨ (rxParse t false = (trZ, 0, 91) ∧ 200 ≤ x.wt + y.wt)) := by
  obtain ⟨a1, a2, _, _⟩ := parse_open h1
  obtain ⟨b1, b2, _, _⟩ := parse_open h2
  have E : Emb s1 t 0 124 := emb_of (l := []) (m := 124 :: s2.data.toList) (by rw [ht]; rfl) (.inr ⟨.inl rfl, 124, _, rfl, rfl⟩)
  have F : Emb s2 t (s1.size + 1) 0 := by
    have := emb_of (s := s2) (t := t) (l := s1.data.toList ++ [124]) (m := []) (c := 0) (by rw [ht]; simp) (.inl ⟨rfl, rfl⟩)
    rwa [List.length_append, ← Lib.size_eq] at this
  have hz : t.size = s1.size + (s2.size + 1) := by
    rw [Lib.size_eq, ht]
    simp
  obtain ⟨us, g, n1, rfl, n2, n3⟩ := E.chOn false (grp_in s1 false 40) (E.grp false 40 40 (.inr (Nat.le_refl _))) (s1.size + 1) (t.size + 1) 0 [] x (by omega) (Nat.zero_le _) a1
  obtain ⟨bs, m1, rfl, m2⟩ := ch_kids b1
  simp only [List.nil_append] at a1 a2 b1 b2 ⊢
  rw [Nat.zero_add] at n2
  rw [Nat.zero_add, Nat.zero_add, List.nil_append] at n3
  rcases F.ch false (big := False) (grp_in s2 false 40) (F.grp false 40 40 (.inr (Nat.le_refl _))) (s2.size + 1) g 0 us (by omega) (Nat.zero_le _) _ _ (m2 us) (fun e => by cases e) with e | e
  · rw [Nat.add_zero] at e
    have hl : 2 ≤ (us ++ bs).length := by
      have := List.length_pos_iff.2 n1
      have := List.length_pos_iff.2 m1
      rw [List.length_append]
      omega
    have h3 : chD t false 40 0 = .ok (togF 6 (us ++ bs)) t.size := by
      unfold chD
      rw [n3, e]
      congr 1
      omega
    have h4 := parse_shut h3 (by omega)
    rw [tog_two 6 _ hl] at h4
    refine ⟨us, bs, n1, m1, rfl, rfl, ?_⟩
    by_cases hw : 200 < (trN 6 (us ++ bs)).wt
    · rw [if_pos hw] at h4
      refine .inr ⟨h4, ?_⟩
      have c1 := wt_tog us n1
      have c2 := wt_tog bs m1
      rw [trN, Tr.wt, if_neg (by decide), if_neg (by decide), wts_app] at hw
      have c3 := wts_in us 0 (Int.le_refl _) (by omega)
      have c4 := wts_le bs 0 (Tr.wts 0 us) (Int.le_refl _) c3.1
      rw [Int.zero_add] at c4
      omega
    · rw [if_neg hw] at h4
      exact .inl h4
  · exact e.1.elim
end Go.Proofs.YtmfcofiihopbfaaDoor

namespace Go.Proofs.YtmfcofiihopbfaaDoor
open Go.RowKit Go.Lib

abbrev zero7 : Array Value := #[.int .i64 0, .int .i64 0, .bool false, .slice none 0 0, .int .i64 0, .int .i64 0, .slice none 0 0]
theorem Blk.seven {W : World} {g : Nat} {a b c d e f h : Value} {t : TypeId} (k : Blk W g #[a, b, c, d, e, f, h] t) : (W.cell? ⟨g, 0, none⟩ = some a ∧ W.cell? ⟨g, 1, none⟩ = some b ∧ W.cell? ⟨g, 2, none⟩ = some c ∧ W.cell? ⟨g, 3, none⟩ = some d ∧ W.cell? ⟨g, 4, none⟩ = some e ∧ W.cell? ⟨g, 5, none⟩ = some f ∧ W.cell? ⟨g, 6, none⟩ = some h) ∧
    (W.frozen? ⟨g, 0, none⟩ = false ∧ W.frozen? ⟨g, 1, none⟩ = false ∧ W.frozen? ⟨g, 2, none⟩ = false ∧ W.frozen? ⟨g, 3, none⟩ = false ∧ W.frozen? ⟨g, 4, none⟩ = false ∧ W.frozen? ⟨g, 5, none⟩ = false ∧ W.frozen? ⟨g, 6, none⟩ = false) :=
  ⟨⟨k.cell 0, k.cell 1, k.cell 2, k.cell 3, k.cell 4, k.cell 5, k.cell 6⟩, ⟨k.fro 0, k.fro 1, k.fro 2, k.fro 3, k.fro 4, k.fro 5, k.fro 6⟩⟩
/-- Seven stores into a block. -/
abbrev put7 (W : World) (B : Nat) (v0 v1 v2 v3 v4 v5 v6 : Value) : World := ((((((W.setCell ⟨B, 0, none⟩ v0).setCell ⟨B, 1, none⟩ v1).setCell ⟨B, 2, none⟩ v2).setCell ⟨B, 3, none⟩ v3).setCell ⟨B, 4, none⟩ v4).setCell ⟨B, 5, none⟩ v5).setCell ⟨B, 6, none⟩ v6
theorem rx_end7 {W : World} {B : Nat} {t : TypeId} {a0 a1 a2 a3 a4 a5 a6 : Value} (v0 v1 v2 v3 v4 v5 v6 : Value) (F : Blk W B #[a0, a1, a2, a3, a4, a5, a6] t) :
    Blk (put7 W B v0 v1 v2 v3 v4 v5 v6) B #[v0, v1, v2, v3, v4, v5, v6] t ∧ Off2 B B W (put7 W B v0 v1 v2 v3 v4 v5 v6) :=
  have h0 : Blk _ B #[v0, a1, a2, a3, a4, a5, a6] t := F.set (j := 0) (u := v0)
  have h1 : Blk _ B #[v0, v1, a2, a3, a4, a5, a6] t := h0.set (j := 1) (u := v1)
  have h2 : Blk _ B #[v0, v1, v2, a3, a4, a5, a6] t := h1.set (j := 2) (u := v2)
  have h3 : Blk _ B #[v0, v1, v2, v3, a4, a5, a6] t := h2.set (j := 3) (u := v3)
  have h4 : Blk _ B #[v0, v1, v2, v3, v4, a5, a6] t := h3.set (j := 4) (u := v4)
  have h5 : Blk _ B #[v0, v1, v2, v3, v4, v5, a6] t := h4.set (j := 5) (u := v5)
  have h6 : Blk _ B #[v0, v1, v2, v3, v4, v5, v6] t := h5.set (j := 6) (u := v6)
  ⟨h6, ((((((Off2.setCell W B B 0 v0).trans (Off2.setCell _ B B 1 v1)).trans (Off2.setCell _ B B 2 v2)).trans (Off2.setCell _ B B 3 v3)).trans (Off2.setCell _ B B 4 v4)).trans (Off2.setCell _ B B 5 v5)).trans (Off2.setCell _ B B 6 v6)⟩
/-- What a part that answers a node leaves. -/
def gTr (n0 : Nat) (t : Tr) (v : Value) (w' : World) : Prop := ∃ vs, v = .agg vs ∧ TrV w' (fun c => n0 ≤ c) t vs
/-- Seven values as they are. -/
theorem TrV.seven {w : World} {P : Nat → Prop} {t : Tr} {vs : Array Value} (h : TrV w P t vs) : ∃ v0 v1 v2 v3 v4 v5 v6, vs = #[v0, v1, v2, v3, v4, v5, v6] := by
  cases t
  obtain ⟨sv, A, cap, rfl, _⟩ := h.open
  exact ⟨_, _, _, _, _, _, _, rfl⟩
/-- The value of a set is one cell. -/
theorem rx_store_set {w : World} {P : Nat → Prop} {set : List (Int × Int)} {sv : Value} (h : RgIn w P set sv) : ∃ A cap, sv = .slice A set.length cap := by
  obtain ⟨A, cap, e, _⟩ := h
  exact ⟨A, cap, e⟩
set_option maxRecDepth 100000 in
set_option maxHeartbeats 1000000 in
theorem rx_together {W : World} {P : Nat → Prop} {ts : List Tr} {A : Option Addr} (hI : Tr.Ins W P ts A 0) (hl : ts.length ≤ 100000) (kind : Int) (cap : Nat) :
    Calls Tryd.prog 20 #[.int .i64 kind, .slice A ts.length cap] W fun e w' => ∃ vs, e = .returned (.agg vs) ∧ TrV w' P (togF kind ts) vs ∧ Below W.heap.size W w' := by
  have hb0 := (Below.refl W.heap.size W).alloc (Nat.le_refl _) (.cells zero7 30)
  have F0 := Blk.new W zero7 30
  have HI := Lib.hid hI
  match ts, hI, hl with
  | [], _, _ =>
    have hT : TrV (W.alloc (.cells #[.int .i64 1, .int .i64 0, .bool false, .slice none 0 0, .int .i64 0, .int .i64 0, .slice none 0 0] 30)) P (trK 1) #[.int .i64 1, .int .i64 0, .bool false, .slice none 0 0, .int .i64 0, .int .i64 0, .slice none 0 0] := TrV.leaf _ P 1 0 false 0 0
    have HT := Lib.hid hT
    clear hT hb0 HI F0
    go_enter Tryd.func20, Tryd.ntmps20
    go_wp2_with fail
    exact bodyPost_ret (v := .agg #[.int .i64 1, .int .i64 0, .bool false, .slice none 0 0, .int .i64 0, .int .i64 0, .slice none 0 0]) (by simp [results, Tryd.results20, go_sem]) rfl ⟨_, rfl, HT.out, (Below.refl _ _).alloc (Nat.le_refl _) _⟩
  | [t], HI, _ =>
    obtain ⟨g, rfl, hp, ht⟩ := Tr.Ins.at HI 0 t rfl
    simp only [Nat.zero_mul, Nat.zero_add] at ht
    obtain ⟨v, hv⟩ := ht.zero
    have hg : g < W.heap.size := World.block_lt_of_cell? W _ hv
    obtain ⟨k1, code, neg, set, lo, hi, kids⟩ := t
    rw [Tr.In] at ht
    obtain ⟨sv, A2, cap2, t0, t1, t2, t3, t4, t5, t6, hn, hR, hJ⟩ := ht
    have hT : TrV W P (.mk k1 code neg set lo hi kids) #[.int .i64 k1, .int .i64 code, .bool neg, sv, .int .i64 lo, .int .i64 hi, .slice A2 kids.length cap2] := TrV.mk hn hR hJ
    obtain ⟨A3, cap3, rfl⟩ := rx_store_set hR
    have hcel := fun (j : Nat) (u : Value) (h : W.cell? ⟨g, j, none⟩ = some u) => (hb0.cell (p := ⟨g, j, none⟩) hg).trans h
    have c0 := hcel 0 _ t0
    have c1 := hcel 1 _ t1
    have c2 := hcel 2 _ t2
    have c3 := hcel 3 _ t3
    have c4 := hcel 4 _ t4
    have c5 := hcel 5 _ t5
    have c6 := hcel 6 _ t6
    have hT2 := fun (u : Array Value) => hT.kept (w' := W.alloc (.cells u 30)) (P' := P) (fun q hq hp => ⟨hp, Below.heap_alloc W _ q hq⟩)
    have HT := Lib.hid hT2
    have hne : g ≠ W.heap.size := by omega
    obtain ⟨r0, r1⟩ := F0.seven
    clear hT hT2 hcel t0 t1 t2 t3 t4 t5 t6 hn hR hJ hv HI hb0 F0 hp
    go_enter Tryd.func20, Tryd.ntmps20
    go_wp2_with fail
    exact bodyPost_ret (v := .agg #[.int .i64 k1, .int .i64 code, .bool neg, .slice A3 set.length cap3, .int .i64 lo, .int .i64 hi, .slice A2 kids.length cap2]) (by simp [results, Tryd.results20, go_sem]) rfl ⟨_, rfl, HT.out _, (Below.refl _ _).alloc (Nat.le_refl _) _⟩
  | t :: u :: l, HI, hl =>
    have hlen : (t :: u :: l).length = l.length + 2 := by simp
    have hT : TrV (W.alloc (.cells #[.int .i64 kind, .int .i64 0, .bool false, .slice none 0 0, .int .i64 0, .int .i64 0, .slice A (t :: u :: l).length cap] 30)) P (trN kind (t :: u :: l)) #[.int .i64 kind, .int .i64 0, .bool false, .slice none 0 0, .int .i64 0, .int .i64 0, .slice A (t :: u :: l).length cap] :=
      TrV.mk hl (RgIn.nil _ _ none 0) (Tr.Ins.keep (fun q hq hp => ⟨hp, Below.heap_alloc W _ q hq⟩) _ _ _ HI)
    rw [← tog_two kind (t :: u :: l) (by simp)] at hT
    obtain ⟨T, hTe⟩ : ∃ T, togF kind (t :: u :: l) = T := ⟨_, rfl⟩
    obtain ⟨m, hm⟩ : ∃ m, (t :: u :: l).length = m := ⟨_, rfl⟩
    rw [hTe] at hT ⊢
    rw [hm] at hT ⊢
    have m0 : ((m : Int) == 0) = false := by rw [beq_eq_false_iff_ne]; omega
    have m1 : ((m : Int) == 1) = false := by rw [beq_eq_false_iff_ne]; omega
    have HT := Lib.hid hT
    clear hT hTe hm hlen HI hb0 F0 hl hI
    go_enter Tryd.func20, Tryd.ntmps20
    go_wp2_with fail
    exact bodyPost_ret (v := .agg #[.int .i64 kind, .int .i64 0, .bool false, .slice none 0 0, .int .i64 0, .int .i64 0, .slice A m cap]) (by simp [results, Tryd.results20, go_sem]) rfl ⟨_, rfl, HT.out, (Below.refl _ _).alloc (Nat.le_refl _) _⟩
end Go.Proofs.YtmfcofiihopbfaaDoor

namespace Go.Proofs.YtmfcofiihopbfaaDoor
open Go.RowKit Go.Lib

theorem bnd_app {l m : List (Int × Int)} (h : Bnd l) (k : Bnd m) : Bnd (l ++ m) := fun r hr => by
  rcases List.mem_append.1 hr with hr | hr
  · exact h r hr
  · exact k r hr
theorem fit_app {l m : List (Int × Int)} (h : Fit l) (k : Fit m) : Fit (l ++ m) := fun r hr => by
  rcases List.mem_append.1 hr with hr | hr
  · exact h r hr
  · exact k r hr
theorem off_grownBy {pb : Nat} {W W' : World} (h : Off2 pb pb W W') : W.grownBy W' (some pb) :=
  ⟨h.os, h.tape, h.output, h.size, fun k hk hne => h.block k hk (fun e => hne (by rw [e])) (fun e => hne (by rw [e]))⟩
theorem own_off {pb n : Nat} {W W' : World} {t : TypeId} {z : Nat} {v : Value} {k : Nat} {xs : List Value} (h : W.ownsRow n t z v k xs) (o : Off2 pb pb W W') (hp : pb < n) : W'.ownsRow n t z v k xs :=
  h.kept (off_grownBy o) (by
    cases e : v.ownBlock with
    | none => exact .inl rfl
    | some q => exact .inr (fun e2 => by cases e2; have := (h.lt _ e).1; omega))
/-- A row that is turned, aside. -/
theorem Stp.aside {pb q : Nat} {s : ByteArray} {b : Bool} {j n : Nat} {W W1 W2 : World} (h : Stp pb s b j n W W1) (o : Off2 q q W1 W2) (hq : W.heap.size ≤ q) (hne : pb ≠ q) : Stp pb s b j n W W2 :=
  ⟨⟨(o.block pb (Blk.lt h.prs) hne hne).trans h.prs.row⟩, ⟨o.os.trans h.off.os, o.tape.trans h.off.tape, o.output.trans h.off.output, Nat.le_trans h.off.size o.size, fun i hi h1 h2 => (o.block i (Nat.lt_of_lt_of_le hi h.off.size) (by omega) (by omega)).trans (h.off.block i hi h1 h2)⟩⟩
theorem rng_news {W : World} {g : Nat} {l : List (Int × Int)} (h : RngR W g l) : ∀ j u, (flatR l)[j]? = some u → W.cell? ((⟨g, 0, none⟩ : Addr).add j) = some u := fun j u hu => by
  have hj : j < (flatR l).length := (List.getElem?_eq_some_iff.1 hu).1
  rw [flatR_len] at hj
  rw [Addr.add_lit, Nat.zero_add]
  have hl : j / 2 < l.length := by omega
  obtain ⟨a, b⟩ := flatR_at l (j / 2) _ (List.getElem?_eq_getElem hl)
  obtain ⟨⟨c, d⟩, _⟩ := h (j / 2) _ (List.getElem?_eq_getElem hl)
  rcases Nat.mod_two_eq_zero_or_one j with m | m
  · rw [show j / 2 * 2 = j by omega] at a c
    rw [a] at hu
    rw [c, ← hu]
  · rw [show j / 2 * 2 + 1 = j by omega] at b d
    rw [b] at hu
    rw [d, ← hu]
theorem flat_one (l : List (Int × Int)) : ∀ u ∈ flatR l, u.oneCell' = true := by
  intro u hu
  unfold flatR at hu
  obtain ⟨r, _, hr⟩ := List.mem_flatMap.1 hu
  simp [encR] at hr
  rcases hr with rfl | rfl <;> rfl
/-- A set's node, of its ranges as they were read. -/
def brkM (neg : Bool) : Rs (List (Int × Int)) → Rs Tr
  | .bad k e => .bad k e
  | .ok l k => .ok (trS neg (joinR l)) k
theorem brk_is (s : ByteArray) (b : Bool) (a i : Nat) : brkF s b a i = brkM (st1 s i 94) (setF s b a (s.size + 1) true (if st1 s i 94 then i + 1 else i) []) := by
  unfold brkF brkM
  cases setF s b a (s.size + 1) true (if st1 s i 94 then i + 1 else i) [] <;> rfl
set_option maxRecDepth 100000 in
set_option maxHeartbeats 2000000 in
theorem rx_set {W : World} {pb a : Nat} {s : ByteArray} {b : Bool} {i n : Nat} (h : Prs W pb s b i n) (hi : i ≤ s.size) (hs : s.size ≤ 1024) (hE : Env W pb) :
    Calls Tryd.prog 28 #[pbP pb, .int .i64 (a : Int)] W (RxOut (gTr W.heap.size) pb s b n W (brkF s b a i)) := by
  have hlt := Blk.lt h
  have F0 := Blk.new W zero7 30
  have S0 := (Stp.refl h).alloc (.cells zero7 30)
  obtain ⟨i0, hi0, hz0, hz1, hz2⟩ := info_parts info_rng
  have HI := Lib.hid (And.intro hi0 (And.intro hz0 (And.intro hz1 hz2)))
  have hE0 := hE.step S0 hlt
  have hsz0 : (W.alloc (.cells zero7 30)).heap.size = W.heap.size + 1 := by simp
  obtain ⟨W0, hW0⟩ : ∃ W0, W.alloc (.cells zero7 30) = W0 := ⟨_, rfl⟩
  rw [hW0] at F0 S0 hE0 hsz0
  have hlt0 : pb < W0.heap.size := by omega
  have hsA : W.heap.size < W0.heap.size := by omega
  have hsB : W0.heap.size ≤ W.heap.size + 1 := by omega
  clear hsz0
  have HE := Lib.hid (fun W1 (j : Nat) (hS : Stp pb s b j n W0 W1) => hE0.step hS hlt0)
  obtain ⟨p0, h0⟩ : ∃ p, st1 s i 94 = p := ⟨_, rfl⟩
  have C0 := Lib.hid (rx_take1 S0.prs hi hs 94 p0 h0)
  have hi1 : (if p0 = true then i + 1 else i) ≤ s.size := by
    cases p0
    · exact hi
    · exact st1_lt h0
  rw [brk_is, h0]
  have HS0 := Lib.hid S0
  have HF0 := Lib.hid F0
  obtain ⟨i1, hi1'⟩ : ∃ i1, (if p0 = true then i + 1 else i) = i1 := ⟨_, rfl⟩
  rw [hi1'] at hi1
  rw [hi1'] at C0
  have e1 : (if p0 = true then i + 1 else i) = i1 := hi1'
  rw [e1]
  obtain ⟨R, hR⟩ : ∃ R, setF s b a (s.size + 1) true i1 [] = R := ⟨_, rfl⟩
  have HR := Lib.hid hR
  rw [hR]
  clear h hE S0 F0 hE0 h0 hi0 hz0 hz1 hz2 e1 hi1' hR
  go_enter Tryd.func28, Tryd.ntmps28
  go_wp2_with fail
  clear hW0
  refine C0.out.mono ?_
  rintro e W1 ⟨rfl, hS⟩
  have HS1 := Lib.hid hS
  clear hS C0
  go_wp2_with fail
  go_loopw [6, 7] (fun sv fv wr => ∃ (v : Value) (first : Bool) (j f : Nat) (acc : List (Int × Int)), v = sv ∧ fv = .bool first ∧ Stp pb s b j n W0 wr ∧ Blk wr W.heap.size zero7 30 ∧ j ≤ s.size ∧ wr.ownsRow W0.heap.size 42 2 v acc.length (flatR acc) ∧ Bnd acc ∧ Fit acc ∧ acc.length ≤ 4 * j ∧ (first = false → acc ≠ []) ∧ setF s b a f first j acc = R ∧ s.size - j < f) (fun _ _ wr => s.size - (match wr.cell? ⟨pb, 2, none⟩ with | some v => (RowKit.intOf v).toNat | none => 0))
  case atStart =>
    refine ⟨_, true, i1, s.size + 1, [], rfl, rfl, HS1.out, ⟨(HS1.out.off.block _ HF0.out.lt (by omega) (by omega)).trans HF0.out.row⟩, hi1, World.ownsRow_nil _ _ _ _, ?_, ?_, by simp, ?_, HR.out, by omega⟩
    · intro r hr; simp at hr
    · intro r hr; simp at hr
    · intro h; cases h
  case round =>
    obtain ⟨v, first, j, f, acc, rfl, rfl, hS, hF0, hj, hO, hB, hF, hal, hne0, hR2, hf⟩ := hrel
    have HSr := Lib.hid hS
    obtain ⟨f1, rfl⟩ : ∃ g, f = g + 1 := ⟨f - 1, by omega⟩
    have q2r := hS.prs.four.2.2.1
    rw [setF] at hR2
    cases first with
    | true =>
      simp only [Bool.not_true, Bool.false_and, Bool.false_eq_true, if_false] at hR2
      obtain ⟨Q, hQ⟩ : ∃ Q, itmF s b a j = Q := ⟨_, rfl⟩
      have CI := Lib.hid (fun W1 (hS : Stp pb s b j n W0 W1) => rx_item (a := a) hS.prs hj hs (HE.out _ _ hS))
      rw [hQ] at CI hR2
      cases Q with
      | bad k er =>
        have HR2 := Lib.hid (show R = .bad k er from hR2.symm)
        clear hQ hR2 hO hF0 hB hF hne0 hS q2r
        go_wp2_with fail
        have HSX := Lib.hid HSr.out
        have HSXr := Lib.hid (Stp.refl HSr.out.prs)
        refine (CI.out _ HSX.out).mono ?_
        rintro e w3 ⟨rfl, hOf⟩
        have HO := Lib.hid (HSX.out.off.trans hOf)
        clear hOf CI
        go_wp2_with fail
        rw [HR2.out]
        exact ⟨rfl, rfl, HS0.out.off.trans HO.out⟩
      | ok l k =>
        have hjk := itm_in hj hQ
        have HR2 := Lib.hid hR2
        have HO0 := Lib.hid hO
        have HF := Lib.hid hF0
        have HB := Lib.hid hB
        have HFi := Lib.hid hF
        clear hQ hR2 hO hF0 hB hF hne0 hS
        go_wp2_with fail
        have HSX := Lib.hid HSr.out
        have HSXr := Lib.hid (Stp.refl HSr.out.prs)
        refine (CI.out _ HSX.out).mono ?_
        rintro e w3 ⟨vv, rfl, ⟨g, gc, rfl, hg, hrg, hne, hl4, hbl, hfl⟩, hS3⟩
        have SXr := HSXr.out.trans hS3
        have S3 := Lib.hid (HSX.out.trans hS3)
        have O3 := Lib.hid (own_off HO0.out SXr.off hlt0)
        have F3 := Lib.hid (show Blk w3 W.heap.size zero7 30 from ⟨(SXr.off.block _ HF.out.lt (by omega) (by omega)).trans HF.out.row⟩)
        have RN := Lib.hid (rng_news hrg)
        have GB := Lib.hid (And.intro hbl hfl)
        have hz3 := S3.out.off.size
        have hln : l.length ≠ 0 := fun e => hne (List.length_eq_zero_iff.1 e)
        clear hS3 SXr hrg hbl hfl HO0 HF CI HSX HSXr hne
        go_wp2_with (at_builtin; refine wpList_append_own_at _ rfl _ _ 27 rfl W0.heap.size 42 i0 _ 2 16 Tryd.underlying27 HI.out.1 HI.out.2.1 HI.out.2.2.1 HI.out.2.2.2 rfl (by decide) _ acc.length (flatR acc) rfl O3.out ⟨g, 0, none⟩ l.length gc (flatR l) rfl (flatR_len l) RN.out (flat_one l) (by unfold maxLen; omega) (by omega) (by omega) ?_)
        rintro v' w4 ho hgr _ _
        have hvb : ∀ q, v.ownBlock = some q → W0.heap.size ≤ q := fun q hq => (O3.out.lt q hq).1
        have P4 : Prs w4 pb s b k n := Blk.grown S3.out.prs hgr (fun e => by have := hvb pb e.symm; omega)
        have S4 := Lib.hid (show Stp pb s b k n W0 w4 from ⟨P4, ⟨hgr.os.trans S3.out.off.os, hgr.tape.trans S3.out.off.tape, hgr.output.trans S3.out.off.output, Nat.le_trans S3.out.off.size hgr.size, fun c hc h1 h2 => (hgr.block c (Nat.lt_of_lt_of_le hc S3.out.off.size) (fun e => by have := hvb c e.symm; omega)).trans (S3.out.off.block c hc h1 h2)⟩⟩)
        have F4 := Lib.hid (Blk.grown F3.out hgr (fun e => by have := hvb _ e.symm; omega))
        have q4 := P4.four.2.2.1
        have HO4 := Lib.hid (show w4.ownsRow W0.heap.size 42 2 v' (acc ++ l).length (flatR (acc ++ l)) by rw [flatR_app, List.length_append]; exact ho)
        clear ho hgr P4 hvb RN F3 O3 S3
        go_wp2_with fail
        refine ⟨⟨v', false, k, f1, acc ++ l, rfl, rfl, S4.out, F4.out, hjk.2, HO4.out, bnd_app HB.out GB.out.1, fit_app HFi.out GB.out.2, by rw [List.length_append]; omega, fun _ e => hln (by rw [(List.append_eq_nil_iff.1 e).2]; rfl), HR2.out, by omega⟩, ?_⟩
        rw [q4, q2r]
        simp [RowKit.intOf]
        omega
    | false =>
      obtain ⟨p, hp⟩ : ∃ p, st1 s j 93 = p := ⟨_, rfl⟩
      have CT := Lib.hid (rx_take1 hS.prs hj hs 93 p hp)
      rw [hp] at hR2
      cases p with
      | false =>
        simp only [Bool.not_false, Bool.true_and, Bool.false_eq_true, if_false] at hR2
        clear hp
        obtain ⟨Q, hQ⟩ : ∃ Q, itmF s b a j = Q := ⟨_, rfl⟩
        have CI := Lib.hid (fun W1 (hS : Stp pb s b j n W0 W1) => rx_item (a := a) hS.prs hj hs (HE.out _ _ hS))
        rw [hQ] at CI hR2
        cases Q with
        | bad k er =>
          have HR2 := Lib.hid (show R = .bad k er from hR2.symm)
          clear hQ hR2 hO hF0 hB hF hne0 hS q2r
          go_wp2_with fail
          refine (CT.out).mono ?_
          rintro e w2 ⟨rfl, hSt⟩
          have HSX := Lib.hid (show Stp pb s b j n W0 w2 from HSr.out.trans hSt)
          have HSXr := Lib.hid (show Stp pb s b j n wr w2 from hSt)
          clear hSt CT
          go_wp2_with fail
          refine (CI.out _ HSX.out).mono ?_
          rintro e w3 ⟨rfl, hOf⟩
          have HO := Lib.hid (HSX.out.off.trans hOf)
          clear hOf CI
          go_wp2_with fail
          rw [HR2.out]
          exact ⟨rfl, rfl, HS0.out.off.trans HO.out⟩
        | ok l k =>
          have hjk := itm_in hj hQ
          have HR2 := Lib.hid hR2
          have HO0 := Lib.hid hO
          have HF := Lib.hid hF0
          have HB := Lib.hid hB
          have HFi := Lib.hid hF
          clear hQ hR2 hO hF0 hB hF hne0 hS
          go_wp2_with fail
          refine (CT.out).mono ?_
          rintro e w2 ⟨rfl, hSt⟩
          have HSX := Lib.hid (show Stp pb s b j n W0 w2 from HSr.out.trans hSt)
          have HSXr := Lib.hid (show Stp pb s b j n wr w2 from hSt)
          clear hSt CT
          go_wp2_with fail
          refine (CI.out _ HSX.out).mono ?_
          rintro e w3 ⟨vv, rfl, ⟨g, gc, rfl, hg, hrg, hne, hl4, hbl, hfl⟩, hS3⟩
          have SXr := HSXr.out.trans hS3
          have S3 := Lib.hid (HSX.out.trans hS3)
          have O3 := Lib.hid (own_off HO0.out SXr.off hlt0)
          have F3 := Lib.hid (show Blk w3 W.heap.size zero7 30 from ⟨(SXr.off.block _ HF.out.lt (by omega) (by omega)).trans HF.out.row⟩)
          have RN := Lib.hid (rng_news hrg)
          have GB := Lib.hid (And.intro hbl hfl)
          have hz3 := S3.out.off.size
          have hln : l.length ≠ 0 := fun e => hne (List.length_eq_zero_iff.1 e)
          clear hS3 SXr hrg hbl hfl HO0 HF CI HSX HSXr hne
          go_wp2_with (at_builtin; refine wpList_append_own_at _ rfl _ _ 27 rfl W0.heap.size 42 i0 _ 2 16 Tryd.underlying27 HI.out.1 HI.out.2.1 HI.out.2.2.1 HI.out.2.2.2 rfl (by decide) _ acc.length (flatR acc) rfl O3.out ⟨g, 0, none⟩ l.length gc (flatR l) rfl (flatR_len l) RN.out (flat_one l) (by unfold maxLen; omega) (by omega) (by omega) ?_)
          rintro v' w4 ho hgr _ _
          have hvb : ∀ q, v.ownBlock = some q → W0.heap.size ≤ q := fun q hq => (O3.out.lt q hq).1
          have P4 : Prs w4 pb s b k n := Blk.grown S3.out.prs hgr (fun e => by have := hvb pb e.symm; omega)
          have S4 := Lib.hid (show Stp pb s b k n W0 w4 from ⟨P4, ⟨hgr.os.trans S3.out.off.os, hgr.tape.trans S3.out.off.tape, hgr.output.trans S3.out.off.output, Nat.le_trans S3.out.off.size hgr.size, fun c hc h1 h2 => (hgr.block c (Nat.lt_of_lt_of_le hc S3.out.off.size) (fun e => by have := hvb c e.symm; omega)).trans (S3.out.off.block c hc h1 h2)⟩⟩)
          have F4 := Lib.hid (Blk.grown F3.out hgr (fun e => by have := hvb _ e.symm; omega))
          have q4 := P4.four.2.2.1
          have HO4 := Lib.hid (show w4.ownsRow W0.heap.size 42 2 v' (acc ++ l).length (flatR (acc ++ l)) by rw [flatR_app, List.length_append]; exact ho)
          clear ho hgr P4 hvb RN F3 O3 S3
          go_wp2_with fail
          refine ⟨⟨v', false, k, f1, acc ++ l, rfl, rfl, S4.out, F4.out, hjk.2, HO4.out, bnd_app HB.out GB.out.1, fit_app HFi.out GB.out.2, by rw [List.length_append]; omega, fun _ e => hln (by rw [(List.append_eq_nil_iff.1 e).2]; rfl), HR2.out, by omega⟩, ?_⟩
          rw [q4, q2r]
          simp [RowKit.intOf]
          omega
      | true =>
        simp only [Bool.not_false, Bool.true_and, if_true] at hR2
        have hj1 := st1_lt hp
        have hne := hne0 rfl
        have HR2 := Lib.hid (show R = .ok acc (j + 1) from hR2.symm)
        clear hp hR2 hne0
        obtain ⟨q, cp, cur, rfl, hq, hrow, hn1, hn2, hn3, hn4⟩ : ∃ q cp cur, v = .slice (some ⟨q, 0, none⟩) acc.length cp ∧ W0.heap.size ≤ q ∧ wr.heap[q]? = some (.cells cur 42 (0, 0)) ∧ acc.length ≤ cp ∧ cp ≤ maxLen ∧ cur.size = cp * 2 ∧ cur.toList.take (acc.length * 2) = flatR acc := by
          rcases hO.2 with ⟨_, e⟩ | ⟨q, cp, cur, e, x⟩
          · exact absurd (List.length_eq_zero_iff.1 e) hne
          · exact ⟨q, cp, cur, e, x⟩
        have hrr : RngR wr q acc := RngR.of_row hrow hn4
        have hqs : q < wr.heap.size := (Array.getElem?_eq_some_iff.1 hrow).1
        have CJ := Lib.hid (fun (w2 : World) (hSt : Stp pb s b (j + 1) n wr w2) => rx_joined (W := w2) (hrr.off hSt.off (by omega)) (Nat.lt_of_lt_of_le hqs hSt.off.size) (by omega) hB hF cp)
        have HF := Lib.hid hF0
        clear hO hrow hn1 hn2 hn3 hn4 hrr hB hF hF0 hS q2r hne
        go_wp2_with fail
        refine (CT.out).mono ?_
        rintro e w2 ⟨rfl, hSt⟩
        have HSt := Lib.hid (show Stp pb s b (j + 1) n wr w2 from hSt)
        clear hSt CT
        go_wp2_with fail
        refine (CJ.out _ HSt.out).mono ?_
        rintro e w3 ⟨v3, rfl, hrg, hof⟩
        obtain ⟨A3, c3, rfl⟩ := rx_store_set hrg
        have hwr := HSr.out.off.size
        have hw2 := HSt.out.off.size
        have F2 : Blk w2 W.heap.size zero7 30 := ⟨(HSt.out.off.block _ HF.out.lt (by omega) (by omega)).trans HF.out.row⟩
        have F3 : Blk w3 W.heap.size zero7 30 := ⟨(hof.block _ F2.lt (by omega) (by omega)).trans F2.row⟩
        have S3 : Stp pb s b (j + 1) n W0 w3 := (HSr.out.trans HSt.out).aside hof hq (by omega)
        obtain ⟨z7, o7⟩ := rx_end7 (.int .i64 4) (.int .i64 0) (.bool p0) (.slice A3 (joinR acc).length c3) (.int .i64 0) (.int .i64 0) (.slice none 0 0) F3
        obtain ⟨⟨y0, y1, y2, y3, y4, y5, y6⟩, _⟩ := z7.seven
        have hkk : ∀ x, x < w3.heap.size → w2.heap.size ≤ x → W.heap.size ≤ x ∧ (put7 w3 W.heap.size (.int .i64 4) (.int .i64 0) (.bool p0) (.slice A3 (joinR acc).length c3) (.int .i64 0) (.int .i64 0) (.slice none 0 0)).heap[x]? = w3.heap[x]? := fun x hx hpx => by
          have hne1 : x ≠ W.heap.size := by omega
          exact ⟨by omega, o7.block x hx hne1 hne1⟩
        have FIN := Lib.hid (show RxOut (gTr W.heap.size) pb s b n W (.ok (trS p0 (joinR acc)) (j + 1)) (.returned (.agg #[.int .i64 4, .int .i64 0, .bool p0, .slice A3 (joinR acc).length c3, .int .i64 0, .int .i64 0, .slice none 0 0])) (put7 w3 W.heap.size (.int .i64 4) (.int .i64 0) (.bool p0) (.slice A3 (joinR acc).length c3) (.int .i64 0) (.int .i64 0) (.slice none 0 0)) from
          ⟨_, rfl, ⟨_, rfl, TrV.mk (by simp) (hrg.kept hkk) (Tr.Ins.nil _ _ none 0)⟩, (HS0.out.trans S3).aside o7 (Nat.le_refl _) (by omega)⟩)
        obtain ⟨⟨k0, k1, k2, k3, k4, k5, k6⟩, f0, f1', f2, f3, f4, f5, f6⟩ := F3.seven
        clear hrg hof F2 F3 S3 z7 o7 HSt HSr CJ
        unfold put7 at y0 y1 y2 y3 y4 y5 y6
        go_wp2_with fail
        rw [HR2.out]
        exact bodyPost_ret (v := .agg #[.int .i64 4, .int .i64 0, .bool p0, .slice A3 (joinR acc).length c3, .int .i64 0, .int .i64 0, .slice none 0 0]) (by simp [results, Tryd.results28, go_sem, y0, y1, y2, y3, y4, y5, y6]) rfl FIN.out
end Go.Proofs.YtmfcofiihopbfaaDoor

namespace Go.Proofs.YtmfcofiihopbfaaDoor
open Go.RowKit Go.Lib

set_option maxRecDepth 100000 in
set_option maxHeartbeats 1000000 in
/-- wordly: letters, digits, '_'. -/
theorem rx_wordly (W : World) : Calls Tryd.prog 36 #[] W fun e w' => ∃ v, e = .returned v ∧ RgIn w' (fun c => W.heap.size ≤ c) wordR v ∧ Below W.heap.size W w' := by
  obtain ⟨i0, hi, hz0, hz1, hz2⟩ := info_parts info_rng
  have CC := Lib.hid (show Calls Tryd.prog 37 #[.string ⟨#[97, 108, 110, 117, 109]⟩] W (fun e w' => e = .returned (.slice (some ⟨W.heap.size, 0, none⟩) 3 3) ∧ w' = W.alloc (codeObj alnR)) from rx_codes_alnum W)
  have O1 : (W.alloc (codeObj alnR)).ownsRow W.heap.size 42 2 (.slice (some ⟨W.heap.size, 0, none⟩) 3 3) 3 (flatR alnR) := World.ownsRow_lit W (flatR alnR).toArray 3 (Nat.le_refl _) (by decide) rfl
  have B1 := (Below.refl W.heap.size W).alloc (Nat.le_refl _) (codeObj alnR)
  have z1 : (W.alloc (codeObj alnR)).heap.size = W.heap.size + 1 := by simp
  obtain ⟨W1, hW1⟩ : ∃ W1, W.alloc (codeObj alnR) = W1 := ⟨_, rfl⟩
  rw [hW1] at CC O1 B1 z1
  have RN := Lib.hid (show ∀ j u, [Value.int .i64 95, .int .i64 95][j]? = some u → (W1.alloc (.cells #[.int .i64 95, .int .i64 95] 42)).cell? ((⟨W1.heap.size, 0, none⟩ : Addr).add j) = some u from rx_row_new W1 #[.int .i64 95, .int .i64 95] 42)
  have O2 := Lib.hid (O1.alloc (.cells #[.int .i64 95, .int .i64 95] 42))
  have B2 := Lib.hid (B1.alloc B1.size (.cells #[.int .i64 95, .int .i64 95] 42))
  have zA : W.heap.size < W1.heap.size := by omega
  clear hW1 O1 B1 z1
  go_enter Tryd.func36, Tryd.ntmps36
  go_wp2_with fail
  refine CC.out.mono ?_
  rintro e w' ⟨rfl, hw'⟩
  obtain rfl : W1 = w' := hw'.symm
  go_wp2_with (at_builtin; refine wpList_append_own_at _ rfl _ _ 27 rfl W.heap.size 42 i0 _ 2 16 Tryd.underlying27 hi hz0 hz1 hz2 rfl (by decide) _ 3 (flatR alnR) rfl O2.out ⟨W1.heap.size, 0, none⟩ 1 1 [.int .i64 95, .int .i64 95] rfl rfl RN.out (by simp [Value.oneCell']) (by unfold maxLen; omega) (by omega) (by simp; omega) ?_)
  rintro v' w2 ho hgr _ _
  obtain ⟨q, cp, cur, rfl, hq, hrow, _, _, _, hn4⟩ : ∃ q cp cur, v' = .slice (some ⟨q, 0, none⟩) 4 cp ∧ W.heap.size ≤ q ∧ w2.heap[q]? = some (.cells cur 42 (0, 0)) ∧ 4 ≤ cp ∧ cp ≤ maxLen ∧ cur.size = cp * 2 ∧ cur.toList.take (4 * 2) = flatR (alnR ++ [(95, 95)]) := by
    rcases ho.2 with ⟨_, e⟩ | ⟨q, cp, cur, e, x⟩
    · cases e
    · exact ⟨q, cp, cur, e, x⟩
  have hrr : RngR w2 q (alnR ++ [(95, 95)]) := RngR.of_row hrow hn4
  have B3 : Below W.heap.size W w2 := Below.grown B2.out hgr (by simp; omega) (fun z hz => by cases hz; exact Nat.le_refl _)
  have hfit : Bnd (alnR ++ [(95, 95)]) ∧ Fit (alnR ++ [(95, 95)]) := by
    constructor
    · intro r hr; simp [alnR] at hr; rcases hr with rfl | rfl | rfl | rfl <;> simp
    · intro r hr; simp [alnR] at hr; rcases hr with rfl | rfl | rfl | rfl <;> simp
  have hjn : joinR (alnR ++ [(95, 95)]) = wordR := by decide
  have CJ := Lib.hid (rx_joined (cap := cp) hrr (Array.getElem?_eq_some_iff.1 hrow).1 (by decide) hfit.1 hfit.2)
  have HB := Lib.hid B3
  have hs2 := B3.size
  clear ho hgr hrow hn4 hrr B3 hfit RN O2 B2 CC
  go_wp2_with fail
  refine (show Calls _ _ _ _ _ from CJ.out).mono ?_
  rintro e w3 ⟨v3, rfl, hrg, hof⟩
  rw [hjn] at hrg
  have HRG := Lib.hid (hrg.kept (P' := fun c => W.heap.size ≤ c) (w' := w3) (fun g _ hp => ⟨Nat.le_trans hs2 hp, rfl⟩))
  have HB3 := Lib.hid (HB.out.trans (hof.below hq hq hs2))
  clear hrg hof hjn CJ
  go_wp2_with fail
  go_ret
  exact ⟨_, rfl, HRG.out, HB3.out⟩
/-- A leaf of the tree, stored into the result. -/
theorem leaf_put {W w : World} {pb : Nat} {s : ByteArray} {b : Bool} {j n : Nat} {kind code : Int} (HS : Stp pb s b j n W w) (F : Blk w W.heap.size zero7 30) :
    RxOut (gTr W.heap.size) pb s b n W (.ok (.mk kind code false [] 0 0 []) j) (.returned (.agg #[.int .i64 kind, .int .i64 code, .bool false, .slice none 0 0, .int .i64 0, .int .i64 0, .slice none 0 0])) (put7 w W.heap.size (.int .i64 kind) (.int .i64 code) (.bool false) (.slice none 0 0) (.int .i64 0) (.int .i64 0) (.slice none 0 0)) := by
  obtain ⟨z7, o7⟩ := rx_end7 (.int .i64 kind) (.int .i64 code) (.bool false) (.slice none 0 0) (.int .i64 0) (.int .i64 0) (.slice none 0 0) F
  have hne : pb ≠ W.heap.size := fun e => by
    have h1 := HS.prs.row
    rw [e, F.row] at h1
    cases h1
  exact ⟨_, rfl, ⟨_, rfl, TrV.leaf _ _ kind code false 0 0⟩, HS.aside o7 (Nat.le_refl _) hne⟩
/-- A set, stored into the result. -/
theorem set_put {W w : World} {pb : Nat} {s : ByteArray} {b : Bool} {j n m : Nat} {neg : Bool} {set : List (Int × Int)} {A : Option Addr} {c : Nat} (HS : Stp pb s b j n W w) (F : Blk w W.heap.size zero7 30) (hr : RgIn w (fun c => m ≤ c) set (.slice A set.length c)) (hm : W.heap.size < m) :
    RxOut (gTr W.heap.size) pb s b n W (.ok (trS neg set) j) (.returned (.agg #[.int .i64 4, .int .i64 0, .bool neg, .slice A set.length c, .int .i64 0, .int .i64 0, .slice none 0 0])) (put7 w W.heap.size (.int .i64 4) (.int .i64 0) (.bool neg) (.slice A set.length c) (.int .i64 0) (.int .i64 0) (.slice none 0 0)) := by
  obtain ⟨z7, o7⟩ := rx_end7 (.int .i64 4) (.int .i64 0) (.bool neg) (.slice A set.length c) (.int .i64 0) (.int .i64 0) (.slice none 0 0) F
  have hne : pb ≠ W.heap.size := fun e => by
    have h1 := HS.prs.row
    rw [e, F.row] at h1
    cases h1
  have hkk : ∀ x, x < w.heap.size → m ≤ x → W.heap.size ≤ x ∧ (put7 w W.heap.size (.int .i64 4) (.int .i64 0) (.bool neg) (.slice A set.length c) (.int .i64 0) (.int .i64 0) (.slice none 0 0)).heap[x]? = w.heap[x]? := fun x hx hp => by
    have h1 : x ≠ W.heap.size := by omega
    exact ⟨by omega, o7.block x hx h1 h1⟩
  exact ⟨_, rfl, ⟨_, rfl, TrV.mk (by simp) (hr.kept hkk) (Tr.Ins.nil _ _ none 0)⟩, HS.aside o7 (Nat.le_refl _) hne⟩
def mrkL (a k : Nat) : Option Nat → Rs Tr
  | none => .bad a 90
  | some x => .ok (trC x) k
def mrkV (c a k : Nat) : Rs Tr :=
  if c = 121 then .ok (trK 10) k
  else if c = 66 then .ok (trK 11) k
  else if c = 60 then .ok (trK 12) k
  else if c = 62 then .ok (trK 13) k
  else if c = 96 then .ok (trK 8) k
  else if c = 39 then .ok (trK 9) k
  else if c = 119 then .ok (trS false wordR) k
  else if c = 87 then .ok (trS true wordR) k
  else if c = 115 then .ok (trS false spaceR) k
  else if c = 83 then .ok (trS true spaceR) k
  else mrkL a k (meantF c)
theorem mrk_is (s : ByteArray) (b : Bool) (a i : Nat) : mrkF s b a i = if i = s.size then .bad a 90 else mrkV (nextZ s i b).1 a (i + (nextZ s i b).2) := by
  unfold mrkF mrkV
  cases meantF (nextZ s i b).1 <;> rfl
set_option maxRecDepth 100000 in
set_option maxHeartbeats 2000000 in
theorem rx_marked {W : World} {pb a : Nat} {s : ByteArray} {b : Bool} {i n : Nat} (h : Prs W pb s b i n) (hi : i ≤ s.size) (hs : s.size ≤ 1024) (hE : Env W pb) :
    Calls Tryd.prog 29 #[pbP pb, .int .i64 (a : Int)] W (RxOut (gTr W.heap.size) pb s b n W (mrkF s b a i)) := by
  have CW := Lib.hid (fun W => rx_wrong pb a W)
  have hlt := Blk.lt h
  have F0 := Blk.new W zero7 30
  have S0 := (Stp.refl h).alloc (.cells zero7 30)
  have hE0 := hE.step S0 hlt
  have hsz0 : (W.alloc (.cells zero7 30)).heap.size = W.heap.size + 1 := by simp
  obtain ⟨W0, hW0⟩ : ∃ W0, W.alloc (.cells zero7 30) = W0 := ⟨_, rfl⟩
  rw [hW0] at F0 S0 hE0 hsz0
  have hlt0 : pb < W0.heap.size := by omega
  have hsA : W.heap.size < W0.heap.size := by omega
  have hneB : pb ≠ W.heap.size := by omega
  clear hsz0
  have HS0 := Lib.hid S0
  have HKF := Lib.hid (fun (w : World) (j : Nat) (hS : Stp pb s b j n W0 w) => show Blk w W.heap.size zero7 30 from ⟨(hS.off.block _ F0.lt (Ne.symm hneB) (Ne.symm hneB)).trans F0.row⟩)
  rw [mrk_is]
  by_cases h0 : i = s.size
  · rw [if_pos h0]
    have C0 := Lib.hid (rx_ended S0.prs true (by rw [size_beq, decide_eq_true_eq]; exact h0))
    clear h hE hE0 S0 F0 h0
    go_enter Tryd.func29, Tryd.ntmps29
    go_wp2_with fail
    refine C0.out.mono ?_
    rintro e w1 ⟨rfl, hS⟩
    have HS := Lib.hid (HS0.out.trans hS)
    clear hS C0 hW0
    go_wp2_with fail
    refine (CW.out _).mono ?_
    rintro e w2 ⟨rfl, rfl⟩
    go_wp2_with fail
    exact ⟨rfl, rfl, HS.out.off⟩
  rw [if_neg h0]
  have C0 := Lib.hid (rx_ended S0.prs false (by rw [size_beq, decide_eq_false_iff_not]; exact h0))
  have C1 := Lib.hid (fun W1 (hS : Stp pb s b i n W0 W1) => rx_next hS.prs (by omega) hs (hE0.step hS hlt0))
  obtain ⟨C, hC⟩ : ∃ C, (nextZ s i b).1 = C := ⟨_, rfl⟩
  obtain ⟨k, hk⟩ : ∃ k, i + (nextZ s i b).2 = k := ⟨_, rfl⟩
  rw [hC, hk]
  rw [hC, hk] at C1
  clear h hE hE0 S0 F0 h0 hC hk
  by_cases c121 : C = 121
  · subst c121
    rw [show mrkV 121 a k = .ok (trK 10) k from rfl]
    go_enter Tryd.func29, Tryd.ntmps29
    go_wp2_with fail
    clear hW0
    refine C0.out.mono ?_
    rintro e w1 ⟨rfl, hS⟩
    have HS := Lib.hid hS
    clear hS C0
    go_wp2_with fail
    refine (C1.out _ HS.out).mono ?_
    rintro e w2 ⟨rfl, hS⟩
    have S2 := HS.out.trans hS
    have HS2 := Lib.hid S2
    have F2 := HKF.out _ _ S2
    clear hS S2 C1 HS
    have FIN := Lib.hid (leaf_put (kind := 10) (code := 0) (HS0.out.trans HS2.out) F2)
    obtain ⟨z7, _⟩ := rx_end7 (.int .i64 10) (.int .i64 0) (.bool false) (.slice none 0 0) (.int .i64 0) (.int .i64 0) (.slice none 0 0) F2
    obtain ⟨⟨y0, y1, y2, y3, y4, y5, y6⟩, _⟩ := z7.seven
    obtain ⟨⟨k0, k1, k2, k3, k4, k5, k6⟩, f0, f1, f2, f3, f4, f5, f6⟩ := F2.seven
    unfold put7 at y0 y1 y2 y3 y4 y5 y6
    clear F2 z7
    go_wp2_with fail
    exact bodyPost_ret (v := .agg #[.int .i64 10, .int .i64 0, .bool false, .slice none 0 0, .int .i64 0, .int .i64 0, .slice none 0 0]) (by simp [results, Tryd.results29, go_sem, y0, y1, y2, y3, y4, y5, y6]) rfl FIN.out
  by_cases c66 : C = 66
  · subst c66
    rw [show mrkV 66 a k = .ok (trK 11) k from rfl]
    go_enter Tryd.func29, Tryd.ntmps29
    go_wp2_with fail
    clear hW0
    refine C0.out.mono ?_
    rintro e w1 ⟨rfl, hS⟩
    have HS := Lib.hid hS
    clear hS C0
    go_wp2_with fail
    refine (C1.out _ HS.out).mono ?_
    rintro e w2 ⟨rfl, hS⟩
    have S2 := HS.out.trans hS
    have HS2 := Lib.hid S2
    have F2 := HKF.out _ _ S2
    clear hS S2 C1 HS
    have FIN := Lib.hid (leaf_put (kind := 11) (code := 0) (HS0.out.trans HS2.out) F2)
    obtain ⟨z7, _⟩ := rx_end7 (.int .i64 11) (.int .i64 0) (.bool false) (.slice none 0 0) (.int .i64 0) (.int .i64 0) (.slice none 0 0) F2
    obtain ⟨⟨y0, y1, y2, y3, y4, y5, y6⟩, _⟩ := z7.seven
    obtain ⟨⟨k0, k1, k2, k3, k4, k5, k6⟩, f0, f1, f2, f3, f4, f5, f6⟩ := F2.seven
    unfold put7 at y0 y1 y2 y3 y4 y5 y6
    clear F2 z7
    go_wp2_with fail
    exact bodyPost_ret (v := .agg #[.int .i64 11, .int .i64 0, .bool false, .slice none 0 0, .int .i64 0, .int .i64 0, .slice none 0 0]) (by simp [results, Tryd.results29, go_sem, y0, y1, y2, y3, y4, y5, y6]) rfl FIN.out
  by_cases c60 : C = 60
  · subst c60
    rw [show mrkV 60 a k = .ok (trK 12) k from rfl]
    go_enter Tryd.func29, Tryd.ntmps29
    go_wp2_with fail
    clear hW0
    refine C0.out.mono ?_
    rintro e w1 ⟨rfl, hS⟩
    have HS := Lib.hid hS
    clear hS C0
    go_wp2_with fail
    refine (C1.out _ HS.out).mono ?_
    rintro e w2 ⟨rfl, hS⟩
    have S2 := HS.out.trans hS
    have HS2 := Lib.hid S2
    have F2 := HKF.out _ _ S2
    clear hS S2 C1 HS
    have FIN := Lib.hid (leaf_put (kind := 12) (code := 0) (HS0.out.trans HS2.out) F2)
    obtain ⟨z7, _⟩ := rx_end7 (.int .i64 12) (.int .i64 0) (.bool false) (.slice none 0 0) (.int .i64 0) (.int .i64 0) (.slice none 0 0) F2
    obtain ⟨⟨y0, y1, y2, y3, y4, y5, y6⟩, _⟩ := z7.seven
    obtain ⟨⟨k0, k1, k2, k3, k4, k5, k6⟩, f0, f1, f2, f3, f4, f5, f6⟩ := F2.seven
    unfold put7 at y0 y1 y2 y3 y4 y5 y6
    clear F2 z7
    go_wp2_with fail
    exact bodyPost_ret (v := .agg #[.int .i64 12, .int .i64 0, .bool false, .slice none 0 0, .int .i64 0, .int .i64 0, .slice none 0 0]) (by simp [results, Tryd.results29, go_sem, y0, y1, y2, y3, y4, y5, y6]) rfl FIN.out
  by_cases c62 : C = 62
  · subst c62
    rw [show mrkV 62 a k = .ok (trK 13) k from rfl]
    go_enter Tryd.func29, Tryd.ntmps29
    go_wp2_with fail
    clear hW0
    refine C0.out.mono ?_
    rintro e w1 ⟨rfl, hS⟩
    have HS := Lib.hid hS
    clear hS C0
    go_wp2_with fail
    refine (C1.out _ HS.out).mono ?_
    rintro e w2 ⟨rfl, hS⟩
    have S2 := HS.out.trans hS
    have HS2 := Lib.hid S2
    have F2 := HKF.out _ _ S2
    clear hS S2 C1 HS
    have FIN := Lib.hid (leaf_put (kind := 13) (code := 0) (HS0.out.trans HS2.out) F2)
    obtain ⟨z7, _⟩ := rx_end7 (.int .i64 13) (.int .i64 0) (.bool false) (.slice none 0 0) (.int .i64 0) (.int .i64 0) (.slice none 0 0) F2
    obtain ⟨⟨y0, y1, y2, y3, y4, y5, y6⟩, _⟩ := z7.seven
    obtain ⟨⟨k0, k1, k2, k3, k4, k5, k6⟩, f0, f1, f2, f3, f4, f5, f6⟩ := F2.seven
    unfold put7 at y0 y1 y2 y3 y4 y5 y6
    clear F2 z7
    go_wp2_with fail
    exact bodyPost_ret (v := .agg #[.int .i64 13, .int .i64 0, .bool false, .slice none 0 0, .int .i64 0, .int .i64 0, .slice none 0 0]) (by simp [results, Tryd.results29, go_sem, y0, y1, y2, y3, y4, y5, y6]) rfl FIN.out
  by_cases c96 : C = 96
  · subst c96
    rw [show mrkV 96 a k = .ok (trK 8) k from rfl]
    go_enter Tryd.func29, Tryd.ntmps29
    go_wp2_with fail
    clear hW0
    refine C0.out.mono ?_
    rintro e w1 ⟨rfl, hS⟩
    have HS := Lib.hid hS
    clear hS C0
    go_wp2_with fail
    refine (C1.out _ HS.out).mono ?_
    rintro e w2 ⟨rfl, hS⟩
    have S2 := HS.out.trans hS
    have HS2 := Lib.hid S2
    have F2 := HKF.out _ _ S2
    clear hS S2 C1 HS
    have FIN := Lib.hid (leaf_put (kind := 8) (code := 0) (HS0.out.trans HS2.out) F2)
    obtain ⟨z7, _⟩ := rx_end7 (.int .i64 8) (.int .i64 0) (.bool false) (.slice none 0 0) (.int .i64 0) (.int .i64 0) (.slice none 0 0) F2
    obtain ⟨⟨y0, y1, y2, y3, y4, y5, y6⟩, _⟩ := z7.seven
    obtain ⟨⟨k0, k1, k2, k3, k4, k5, k6⟩, f0, f1, f2, f3, f4, f5, f6⟩ := F2.seven
    unfold put7 at y0 y1 y2 y3 y4 y5 y6
    clear F2 z7
    go_wp2_with fail
    exact bodyPost_ret (v := .agg #[.int .i64 8, .int .i64 0, .bool false, .slice none 0 0, .int .i64 0, .int .i64 0, .slice none 0 0]) (by simp [results, Tryd.results29, go_sem, y0, y1, y2, y3, y4, y5, y6]) rfl FIN.out
  by_cases c39 : C = 39
  · subst c39
    rw [show mrkV 39 a k = .ok (trK 9) k from rfl]
    go_enter Tryd.func29, Tryd.ntmps29
    go_wp2_with fail
    clear hW0
    refine C0.out.mono ?_
    rintro e w1 ⟨rfl, hS⟩
    have HS := Lib.hid hS
    clear hS C0
    go_wp2_with fail
    refine (C1.out _ HS.out).mono ?_
    rintro e w2 ⟨rfl, hS⟩
    have S2 := HS.out.trans hS
    have HS2 := Lib.hid S2
    have F2 := HKF.out _ _ S2
    clear hS S2 C1 HS
    have FIN := Lib.hid (leaf_put (kind := 9) (code := 0) (HS0.out.trans HS2.out) F2)
    obtain ⟨z7, _⟩ := rx_end7 (.int .i64 9) (.int .i64 0) (.bool false) (.slice none 0 0) (.int .i64 0) (.int .i64 0) (.slice none 0 0) F2
    obtain ⟨⟨y0, y1, y2, y3, y4, y5, y6⟩, _⟩ := z7.seven
    obtain ⟨⟨k0, k1, k2, k3, k4, k5, k6⟩, f0, f1, f2, f3, f4, f5, f6⟩ := F2.seven
    unfold put7 at y0 y1 y2 y3 y4 y5 y6
    clear F2 z7
    go_wp2_with fail
    exact bodyPost_ret (v := .agg #[.int .i64 9, .int .i64 0, .bool false, .slice none 0 0, .int .i64 0, .int .i64 0, .slice none 0 0]) (by simp [results, Tryd.results29, go_sem, y0, y1, y2, y3, y4, y5, y6]) rfl FIN.out
  by_cases c119 : C = 119
  · subst c119
    rw [show mrkV 119 a k = .ok (trS false wordR) k from rfl]
    have CWd := Lib.hid (fun W => rx_wordly W)
    go_enter Tryd.func29, Tryd.ntmps29
    go_wp2_with fail
    clear hW0
    refine C0.out.mono ?_
    rintro e w1 ⟨rfl, hS⟩
    have HS := Lib.hid hS
    clear hS C0
    go_wp2_with fail
    refine (C1.out _ HS.out).mono ?_
    rintro e w2 ⟨rfl, hS⟩
    have S2 := HS.out.trans hS
    have HS2 := Lib.hid S2
    have F2 := HKF.out _ _ S2
    clear hS S2 C1 HS
    go_wp2_with fail
    refine (CWd.out _).mono ?_
    rintro e w3 ⟨v3, rfl, hrg, hb⟩
    obtain ⟨A3, q3, rfl⟩ := rx_store_set hrg
    have hs2 := HS2.out.off.size
    have F3 : Blk w3 W.heap.size zero7 30 := F2.below hb F2.lt
    have S3 := HS2.out.below hb
    have FIN := Lib.hid (set_put (neg := false) (HS0.out.trans S3) F3 hrg (by omega))
    clear hb S3 HS2 F2 CWd
    have F2 := F3
    obtain ⟨z7, _⟩ := rx_end7 (.int .i64 4) (.int .i64 0) (.bool false) (.slice A3 wordR.length q3) (.int .i64 0) (.int .i64 0) (.slice none 0 0) F2
    clear hrg
    obtain ⟨⟨y0, y1, y2, y3, y4, y5, y6⟩, _⟩ := z7.seven
    obtain ⟨⟨k0, k1, k2, k3, k4, k5, k6⟩, f0, f1, f2, f3, f4, f5, f6⟩ := F2.seven
    unfold put7 at y0 y1 y2 y3 y4 y5 y6
    clear F2 z7
    go_wp2_with fail
    exact bodyPost_ret (v := .agg #[.int .i64 4, .int .i64 0, .bool false, .slice A3 wordR.length q3, .int .i64 0, .int .i64 0, .slice none 0 0]) (by simp [results, Tryd.results29, go_sem, y0, y1, y2, y3, y4, y5, y6]) rfl FIN.out
  by_cases c87 : C = 87
  · subst c87
    rw [show mrkV 87 a k = .ok (trS true wordR) k from rfl]
    have CWd := Lib.hid (fun W => rx_wordly W)
    go_enter Tryd.func29, Tryd.ntmps29
    go_wp2_with fail
    clear hW0
    refine C0.out.mono ?_
    rintro e w1 ⟨rfl, hS⟩
    have HS := Lib.hid hS
    clear hS C0
    go_wp2_with fail
    refine (C1.out _ HS.out).mono ?_
    rintro e w2 ⟨rfl, hS⟩
    have S2 := HS.out.trans hS
    have HS2 := Lib.hid S2
    have F2 := HKF.out _ _ S2
    clear hS S2 C1 HS
    go_wp2_with fail
    refine (CWd.out _).mono ?_
    rintro e w3 ⟨v3, rfl, hrg, hb⟩
    obtain ⟨A3, q3, rfl⟩ := rx_store_set hrg
    have hs2 := HS2.out.off.size
    have F3 : Blk w3 W.heap.size zero7 30 := F2.below hb F2.lt
    have S3 := HS2.out.below hb
    have FIN := Lib.hid (set_put (neg := true) (HS0.out.trans S3) F3 hrg (by omega))
    clear hb S3 HS2 F2 CWd
    have F2 := F3
    obtain ⟨z7, _⟩ := rx_end7 (.int .i64 4) (.int .i64 0) (.bool true) (.slice A3 wordR.length q3) (.int .i64 0) (.int .i64 0) (.slice none 0 0) F2
    clear hrg
    obtain ⟨⟨y0, y1, y2, y3, y4, y5, y6⟩, _⟩ := z7.seven
    obtain ⟨⟨k0, k1, k2, k3, k4, k5, k6⟩, f0, f1, f2, f3, f4, f5, f6⟩ := F2.seven
    unfold put7 at y0 y1 y2 y3 y4 y5 y6
    clear F2 z7
    go_wp2_with fail
    exact bodyPost_ret (v := .agg #[.int .i64 4, .int .i64 0, .bool true, .slice A3 wordR.length q3, .int .i64 0, .int .i64 0, .slice none 0 0]) (by simp [results, Tryd.results29, go_sem, y0, y1, y2, y3, y4, y5, y6]) rfl FIN.out
  by_cases c115 : C = 115
  · subst c115
    rw [show mrkV 115 a k = .ok (trS false spaceR) k from rfl]
    have CWd := Lib.hid (fun W => rx_codes (s := ⟨#[115, 112, 97, 99, 101]⟩) (l := spaceR) rfl W)
    go_enter Tryd.func29, Tryd.ntmps29
    go_wp2_with fail
    clear hW0
    refine C0.out.mono ?_
    rintro e w1 ⟨rfl, hS⟩
    have HS := Lib.hid hS
    clear hS C0
    go_wp2_with fail
    refine (C1.out _ HS.out).mono ?_
    rintro e w2 ⟨rfl, hS⟩
    have S2 := HS.out.trans hS
    have HS2 := Lib.hid S2
    have F2 := HKF.out _ _ S2
    clear hS S2 C1 HS
    go_wp2_with fail
    refine (CWd.out _).mono ?_
    rintro e w3 ⟨rfl, rfl⟩
    have hs2 := HS2.out.off.size
    have hb := (Below.refl w2.heap.size w2).alloc (Nat.le_refl _) (codeObj spaceR)
    have hrr := codeObj_rng w2 spaceR
    have hrg : RgIn (w2.alloc (codeObj spaceR)) (fun c => w2.heap.size ≤ c) spaceR (.slice (some ⟨w2.heap.size, 0, none⟩) spaceR.length spaceR.length) := ⟨_, _, rfl, by decide, fun j r hj => ⟨_, rfl, Nat.le_refl _, (hrr j r hj).1⟩⟩
    obtain ⟨w3, hw3⟩ : ∃ w3, w2.alloc (codeObj spaceR) = w3 := ⟨_, rfl⟩
    rw [hw3] at hb hrg
    rw [hw3]
    have F3 : Blk w3 W.heap.size zero7 30 := F2.below hb F2.lt
    have S3 := HS2.out.below hb
    have FIN := Lib.hid (set_put (neg := false) (HS0.out.trans S3) F3 hrg (by omega))
    clear hb S3 HS2 F2 CWd hrr hw3
    have F2 := F3
    obtain ⟨z7, _⟩ := rx_end7 (.int .i64 4) (.int .i64 0) (.bool false) (.slice (some ⟨w2.heap.size, 0, none⟩) spaceR.length spaceR.length) (.int .i64 0) (.int .i64 0) (.slice none 0 0) F2
    clear hrg
    obtain ⟨⟨y0, y1, y2, y3, y4, y5, y6⟩, _⟩ := z7.seven
    obtain ⟨⟨k0, k1, k2, k3, k4, k5, k6⟩, f0, f1, f2, f3, f4, f5, f6⟩ := F2.seven
    unfold put7 at y0 y1 y2 y3 y4 y5 y6
    clear F2 z7
    go_wp2_with fail
    exact bodyPost_ret (v := .agg #[.int .i64 4, .int .i64 0, .bool false, .slice (some ⟨w2.heap.size, 0, none⟩) spaceR.length spaceR.length, .int .i64 0, .int .i64 0, .slice none 0 0]) (by simp [results, Tryd.results29, go_sem, y0, y1, y2, y3, y4, y5, y6]) rfl FIN.out
  by_cases c83 : C = 83
  · subst c83
    rw [show mrkV 83 a k = .ok (trS true spaceR) k from rfl]
    have CWd := Lib.hid (fun W => rx_codes (s := ⟨#[115, 112, 97, 99, 101]⟩) (l := spaceR) rfl W)
    go_enter Tryd.func29, Tryd.ntmps29
    go_wp2_with fail
    clear hW0
    refine C0.out.mono ?_
    rintro e w1 ⟨rfl, hS⟩
    have HS := Lib.hid hS
    clear hS C0
    go_wp2_with fail
    refine (C1.out _ HS.out).mono ?_
    rintro e w2 ⟨rfl, hS⟩
    have S2 := HS.out.trans hS
    have HS2 := Lib.hid S2
    have F2 := HKF.out _ _ S2
    clear hS S2 C1 HS
    go_wp2_with fail
    refine (CWd.out _).mono ?_
    rintro e w3 ⟨rfl, rfl⟩
    have hs2 := HS2.out.off.size
    have hb := (Below.refl w2.heap.size w2).alloc (Nat.le_refl _) (codeObj spaceR)
    have hrr := codeObj_rng w2 spaceR
    have hrg : RgIn (w2.alloc (codeObj spaceR)) (fun c => w2.heap.size ≤ c) spaceR (.slice (some ⟨w2.heap.size, 0, none⟩) spaceR.length spaceR.length) := ⟨_, _, rfl, by decide, fun j r hj => ⟨_, rfl, Nat.le_refl _, (hrr j r hj).1⟩⟩
    obtain ⟨w3, hw3⟩ : ∃ w3, w2.alloc (codeObj spaceR) = w3 := ⟨_, rfl⟩
    rw [hw3] at hb hrg
    rw [hw3]
    have F3 : Blk w3 W.heap.size zero7 30 := F2.below hb F2.lt
    have S3 := HS2.out.below hb
    have FIN := Lib.hid (set_put (neg := true) (HS0.out.trans S3) F3 hrg (by omega))
    clear hb S3 HS2 F2 CWd hrr hw3
    have F2 := F3
    obtain ⟨z7, _⟩ := rx_end7 (.int .i64 4) (.int .i64 0) (.bool true) (.slice (some ⟨w2.heap.size, 0, none⟩) spaceR.length spaceR.length) (.int .i64 0) (.int .i64 0) (.slice none 0 0) F2
    clear hrg
    obtain ⟨⟨y0, y1, y2, y3, y4, y5, y6⟩, _⟩ := z7.seven
    obtain ⟨⟨k0, k1, k2, k3, k4, k5, k6⟩, f0, f1, f2, f3, f4, f5, f6⟩ := F2.seven
    unfold put7 at y0 y1 y2 y3 y4 y5 y6
    clear F2 z7
    go_wp2_with fail
    exact bodyPost_ret (v := .agg #[.int .i64 4, .int .i64 0, .bool true, .slice (some ⟨w2.heap.size, 0, none⟩) spaceR.length spaceR.length, .int .i64 0, .int .i64 0, .slice none 0 0]) (by simp [results, Tryd.results29, go_sem, y0, y1, y2, y3, y4, y5, y6]) rfl FIN.out
  have CM := fun W => rx_meant C W
  obtain ⟨M, hM⟩ : ∃ M, meantF C = M := ⟨_, rfl⟩
  rw [meantZ_is hM] at CM
  have hv : mrkV C a k = mrkL a k M := by
    rw [← hM]; unfold mrkV; rw [if_neg c121, if_neg c66, if_neg c60, if_neg c62, if_neg c96, if_neg c39, if_neg c119, if_neg c87, if_neg c115, if_neg c83]
  rw [hv]
  have b121 : ((C : Int) == 121) = false := by rw [beq_eq_false_iff_ne]; omega
  have b66 : ((C : Int) == 66) = false := by rw [beq_eq_false_iff_ne]; omega
  have b60 : ((C : Int) == 60) = false := by rw [beq_eq_false_iff_ne]; omega
  have b62 : ((C : Int) == 62) = false := by rw [beq_eq_false_iff_ne]; omega
  have b96 : ((C : Int) == 96) = false := by rw [beq_eq_false_iff_ne]; omega
  have b39 : ((C : Int) == 39) = false := by rw [beq_eq_false_iff_ne]; omega
  have b119 : ((C : Int) == 119) = false := by rw [beq_eq_false_iff_ne]; omega
  have b87 : ((C : Int) == 87) = false := by rw [beq_eq_false_iff_ne]; omega
  have b115 : ((C : Int) == 115) = false := by rw [beq_eq_false_iff_ne]; omega
  have b83 : ((C : Int) == 83) = false := by rw [beq_eq_false_iff_ne]; omega
  clear hM hv c121 c66 c60 c62 c96 c39 c119 c87 c115 c83
  cases M with
  | none =>
    simp only [meantP] at CM
    simp only [mrkL]
    have CM := Lib.hid CM
    go_enter Tryd.func29, Tryd.ntmps29
    go_wp2_with fail
    clear hW0
    refine C0.out.mono ?_
    rintro e w1 ⟨rfl, hS⟩
    have HS := Lib.hid hS
    clear hS C0
    go_wp2_with fail
    refine (C1.out _ HS.out).mono ?_
    rintro e w2 ⟨rfl, hS⟩
    have S2 := HS.out.trans hS
    have HS2 := Lib.hid S2
    have F2 := HKF.out _ _ S2
    clear hS S2 C1 HS
    clear F2
    go_wp2_with fail
    refine (CM.out _).mono ?_
    rintro e w3 ⟨rfl, hb⟩
    have HS3 := Lib.hid (HS2.out.below hb)
    clear hb HS2 CM
    go_wp2_with fail
    refine (CW.out _).mono ?_
    rintro e w4 ⟨rfl, rfl⟩
    go_wp2_with fail
    exact ⟨rfl, rfl, HS0.out.off.trans HS3.out.off⟩
  | some x =>
    simp only [meantP] at CM
    simp only [mrkL]
    have CM := Lib.hid CM
    go_enter Tryd.func29, Tryd.ntmps29
    go_wp2_with fail
    clear hW0
    refine C0.out.mono ?_
    rintro e w1 ⟨rfl, hS⟩
    have HS := Lib.hid hS
    clear hS C0
    go_wp2_with fail
    refine (C1.out _ HS.out).mono ?_
    rintro e w2 ⟨rfl, hS⟩
    have S2 := HS.out.trans hS
    have HS2 := Lib.hid S2
    have F2 := HKF.out _ _ S2
    clear hS S2 C1 HS
    go_wp2_with fail
    refine (CM.out _).mono ?_
    rintro e w3 ⟨rfl, hb⟩
    have S3 := HS2.out.below hb
    have F3 : Blk w3 W.heap.size zero7 30 := F2.below hb F2.lt
    clear hb HS2 F2 CM
    have HS2 := Lib.hid S3
    clear S3
    have F2 := F3
    clear F3
    have FIN := Lib.hid (leaf_put (kind := 2) (code := (x : Int)) (HS0.out.trans HS2.out) F2)
    obtain ⟨z7, _⟩ := rx_end7 (.int .i64 2) (.int .i64 (x : Int)) (.bool false) (.slice none 0 0) (.int .i64 0) (.int .i64 0) (.slice none 0 0) F2
    obtain ⟨⟨y0, y1, y2, y3, y4, y5, y6⟩, _⟩ := z7.seven
    obtain ⟨⟨k0, k1, k2, k3, k4, k5, k6⟩, f0, f1, f2, f3, f4, f5, f6⟩ := F2.seven
    unfold put7 at y0 y1 y2 y3 y4 y5 y6
    clear F2 z7
    go_wp2_with fail
    exact bodyPost_ret (v := .agg #[.int .i64 2, .int .i64 (x : Int), .bool false, .slice none 0 0, .int .i64 0, .int .i64 0, .slice none 0 0]) (by simp [results, Tryd.results29, go_sem, y0, y1, y2, y3, y4, y5, y6]) rfl FIN.out
end Go.Proofs.YtmfcofiihopbfaaDoor
