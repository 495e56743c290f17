/- Several texts in one (Blocks of cells: what lies in them, and what is kept; Plain: a heap of numbers, by places; what stands in order is told by its numbers. No walk here; Words for memory: a queue of items; Len, Less, Swap; Contracts of layer 7: the heap's up and down over a queue; Contracts of layer 7: an item pushed, an item popped; Contracts of layer 7: the orders by their names; Plain: numbers of digits of any base, the lowest digit first; Plain: one step of each loop over limbs). -/
import Derived.WalkSmall
import Derived.WalkKit
import Derived.WalkSpells
import Derived.WalkLawsBesides
import Derived.ProofKit
import Derived.Below
import Derived.Lib.Hide
import Derived.Laws.OwnMore
import Derived.Lib.SmallJoins
import Derived.Maps.OwnSet
import Derived.Maps.RangeWalk
import Derived.Test.YtbbbdcohkfijoaaGreatDoorProg
import Derived.Laws.EntriesVeiled
import Derived.BigRegion
import Derived.BigQuiet
import Derived.Deep.QuietTactic
import Derived.Deep.RegionHeld3
import Derived.Deep.RegionLaw
import Derived.Maps.AppendAt
import Derived.LoopTactic
import Derived.Laws.MakeOwn
import Derived.Maps.OwnOps
import Derived.Test.YtbbbdcohkfijoaaGreatDoorShelf
import Derived.KernelRfl
namespace Go.Proofs.YtbbbdcohkfijoaaGreatDoor
open Go.RowKit Go.Lib

/-- Block g is this row of cells. -/
structure Blk (W : World) (g : Nat) (cs : Array Value) (t : TypeId) : Prop where
  row : W.heap[g]? = some (.cells cs t (0, 0))
theorem Blk.lt {W : World} {g : Nat} {cs : Array Value} {t : TypeId} (h : Blk W g cs t) : g < W.heap.size := (Array.getElem?_eq_some_iff.1 h.row).1
theorem Blk.cell {W : World} {g : Nat} {cs : Array Value} {t : TypeId} (h : Blk W g cs t) (j : Nat) : W.cell? ⟨g, j, none⟩ = cs[j]? := cell_of_row W _ j _ _ _ h.row
theorem Blk.fro {W : World} {g : Nat} {cs : Array Value} {t : TypeId} (h : Blk W g cs t) (j : Nat) : W.frozen? ⟨g, j, none⟩ = false := frozen_of_row W _ j _ _ h.row
theorem Blk.below {W W' : World} {g B : Nat} {cs : Array Value} {t : TypeId} (h : Blk W g cs t) (hb : Below B W W') (hg : g < B) : Blk W' g cs t := ⟨(hb.block g hg).trans h.row⟩
theorem Blk.new (w : World) (cs : Array Value) (t : TypeId) : Blk (w.alloc (.cells cs t)) w.heap.size cs t := ⟨heap_alloc_new w _⟩
theorem Blk.alloc {W : World} {g : Nat} {cs : Array Value} {t : TypeId} (h : Blk W g cs t) (o : Obj) : Blk (W.alloc o) g cs t := ⟨(Below.heap_alloc W o g h.lt).trans h.row⟩
theorem Blk.set {W : World} {g j : Nat} {cs : Array Value} {t : TypeId} {u : Value} (h : Blk W g cs t) : Blk (W.setCell ⟨g, j, none⟩ u) g (cs.setIfInBounds j u) t := ⟨heap_setCell_same W g j cs t u h.row⟩
theorem Blk.other {W : World} {g g' j : Nat} {cs : Array Value} {t : TypeId} {u : Value} (h : Blk W g cs t) (hne : g ≠ g') : Blk (W.setCell ⟨g', j, none⟩ u) g cs t := by
  refine ⟨?_⟩
  rw [Below.heap_setCell W ⟨g', j, none⟩ u g hne]
  exact h.row
theorem Blk.grown {W W' : World} {g : Nat} {cs : Array Value} {t : TypeId} {r : Option Nat} (h : Blk W g cs t) (hg : W.grownBy W' r) (hne : some g ≠ r) : Blk W' g cs t := ⟨(hg.block g h.lt hne).trans h.row⟩
end Go.Proofs.YtbbbdcohkfijoaaGreatDoor

namespace Go.Proofs.YtbbbdcohkfijoaaGreatDoor

structure Ord (lt : Nat → Nat → Bool) : Prop where
  asym : ∀ a b, lt a b = true → lt b a = false
  total : ∀ a b, a ≠ b → lt a b = false → lt b a = true
  trans : ∀ a b c, lt a b = true → lt b c = true → lt a c = true
theorem Ord.irr {lt : Nat → Nat → Bool} (o : Ord lt) (a : Nat) : lt a a = false := by
  cases h : lt a a with
  | false => rfl
  | true => have := o.asym a a h; rw [h] at this; cases this
theorem Ord.ntrans {lt : Nat → Nat → Bool} (o : Ord lt) {a b c : Nat} (h1 : lt a b = false) (h2 : lt b c = false) : lt a c = false := by
  by_cases e1 : a = b
  · rw [e1]; exact h2
  · by_cases e2 : b = c
    · rw [← e2]; exact h1
    · exact o.asym c a (o.trans c b a (o.total b c e2 h2) (o.total a b e1 h1))
/-- Two places change what they hold. -/
def swp (f : Nat → Nat) (i j : Nat) : Nat → Nat := fun k => if k = i then f j else if k = j then f i else f k
theorem swp_i (f : Nat → Nat) (i j : Nat) : swp f i j i = f j := if_pos rfl
theorem swp_j (f : Nat → Nat) (i j : Nat) : swp f i j j = f i := by
  unfold swp
  by_cases h : j = i
  · rw [if_pos h, h]
  · rw [if_neg h, if_pos rfl]
theorem swp_o (f : Nat → Nat) {i j k : Nat} (h1 : k ≠ i) (h2 : k ≠ j) : swp f i j k = f k := by
  unfold swp
  rw [if_neg h1, if_neg h2]
/-- The first n places hold just the numbers of S, each once. -/
structure Hold (f : Nat → Nat) (n : Nat) (S : Nat → Prop) : Prop where
  inj : ∀ i j, i < n → j < n → f i = f j → i = j
  on : ∀ a, S a ↔ ∃ i, i < n ∧ f i = a
theorem Hold.swp {f : Nat → Nat} {n i j : Nat} {S : Nat → Prop} (h : Hold f n S) (hi : i < n) (hj : j < n) : Hold (swp f i j) n S := by
  have key : ∀ k, k < n → ∃ q, q < n ∧ Go.Proofs.YtbbbdcohkfijoaaGreatDoor.swp f i j k = f q ∧ Go.Proofs.YtbbbdcohkfijoaaGreatDoor.swp f i j q = f k := fun k hk => by
    by_cases h1 : k = i
    · subst h1; exact ⟨j, hj, swp_i _ _ _, swp_j _ _ _⟩
    · by_cases h2 : k = j
      · subst h2; exact ⟨i, hi, swp_j _ _ _, swp_i _ _ _⟩
      · exact ⟨k, hk, swp_o _ h1 h2, swp_o _ h1 h2⟩
  refine ⟨fun a b ha hb e => ?_, fun a => ?_⟩
  · obtain ⟨p, hp, e1, e2⟩ := key a ha
    obtain ⟨q, hq, e3, e4⟩ := key b hb
    rw [e1, e3] at e
    have e5 := h.inj p q hp hq e
    subst e5
    rw [e2] at e4
    exact h.inj a b ha hb e4
  · rw [h.on]
    constructor
    · rintro ⟨k, hk, rfl⟩
      obtain ⟨q, hq, _, e2⟩ := key k hk
      exact ⟨q, hq, e2⟩
    · rintro ⟨k, hk, rfl⟩
      obtain ⟨q, hq, e1, _⟩ := key k hk
      exact ⟨q, hq, e1.symm⟩
theorem Hold.push {f f' : Nat → Nat} {n x : Nat} {S : Nat → Prop} (h : Hold f n S) (hf : ∀ k, k < n → f' k = f k) (hx : f' n = x) (hn : ¬ S x) : Hold f' (n + 1) (fun a => S a ∨ a = x) := by
  have no : ∀ k, k < n → f k ≠ x := fun k hk e => hn ((h.on x).2 ⟨k, hk, e⟩)
  refine ⟨fun a b ha hb e => ?_, fun a => ?_⟩
  · by_cases h1 : a = n
    · by_cases h2 : b = n
      · rw [h1, h2]
      · exfalso
        rw [h1, hx, hf b (by omega)] at e
        exact no b (by omega) e.symm
    · by_cases h2 : b = n
      · exfalso
        rw [h2, hx, hf a (by omega)] at e
        exact no a (by omega) e
      · rw [hf a (by omega), hf b (by omega)] at e
        exact h.inj a b (by omega) (by omega) e
  · constructor
    · rintro (h1 | rfl)
      · obtain ⟨k, hk, e⟩ := (h.on a).1 h1
        exact ⟨k, by omega, (hf k hk).trans e⟩
      · exact ⟨n, by omega, hx⟩
    · rintro ⟨k, hk, e⟩
      by_cases h1 : k = n
      · rw [h1, hx] at e
        exact Or.inr e.symm
      · rw [hf k (by omega)] at e
        exact Or.inl ((h.on a).2 ⟨k, by omega, e⟩)
theorem Hold.pop {f : Nat → Nat} {n : Nat} {S : Nat → Prop} (h : Hold f (n + 1) S) : Hold f n (fun a => S a ∧ a ≠ f n) := by
  refine ⟨fun a b ha hb e => h.inj a b (by omega) (by omega) e, fun a => ?_⟩
  constructor
  · rintro ⟨h1, h2⟩
    obtain ⟨k, hk, e⟩ := (h.on a).1 h1
    refine ⟨k, ?_, e⟩
    by_cases h3 : k = n
    · rw [h3] at e; exact absurd e.symm h2
    · omega
  · rintro ⟨k, hk, rfl⟩
    refine ⟨(h.on _).2 ⟨k, by omega, rfl⟩, fun e => ?_⟩
    have := h.inj k n (by omega) (by omega) e
    omega
/-- None is less than the one above it. -/
def Heap (lt : Nat → Nat → Bool) (f : Nat → Nat) (n : Nat) : Prop := ∀ k, 0 < k → k < n → lt (f k) (f ((k - 1) / 2)) = false
theorem Heap.least {lt : Nat → Nat → Bool} (o : Ord lt) {f : Nat → Nat} {n : Nat} (h : Heap lt f n) : ∀ k, k < n → lt (f k) (f 0) = false := by
  intro k
  induction k using Nat.strongRecOn with
  | _ k ih =>
    intro hk
    by_cases h0 : k = 0
    · rw [h0]; exact o.irr _
    · exact o.ntrans (h k (by omega) hk) (ih ((k - 1) / 2) (by omega) (by omega))
/-- As a heap, but for the place j, which may have to go up. -/
def UpH (lt : Nat → Nat → Bool) (f : Nat → Nat) (n j : Nat) : Prop :=
  (∀ k, 0 < k → k < n → k ≠ j → lt (f k) (f ((k - 1) / 2)) = false) ∧ (∀ k, 0 < k → k < n → (k - 1) / 2 = j → 0 < j → lt (f k) (f ((j - 1) / 2)) = false)
theorem UpH.start {lt : Nat → Nat → Bool} {f f' : Nat → Nat} {n : Nat} (h : Heap lt f n) (hf : ∀ k, k < n → f' k = f k) : UpH lt f' (n + 1) n := by
  refine ⟨fun k h0 hk hne => ?_, fun k h0 hk e _ => by omega⟩
  rw [hf k (by omega), hf ((k - 1) / 2) (by omega)]
  exact h k h0 (by omega)
theorem UpH.done {lt : Nat → Nat → Bool} {f : Nat → Nat} {n j : Nat} (h : UpH lt f n j) (hd : j = 0 ∨ lt (f j) (f ((j - 1) / 2)) = false) : Heap lt f n := fun k h0 hk => by
  by_cases e : k = j
  · subst e
    rcases hd with h1 | h1
    · omega
    · exact h1
  · exact h.1 k h0 hk e
theorem UpH.step {lt : Nat → Nat → Bool} (o : Ord lt) {f : Nat → Nat} {n i j : Nat} (h : UpH lt f n j) (h0 : 0 < j) (hj : j < n) (hi : (j - 1) / 2 = i) (hl : lt (f j) (f i) = true) : UpH lt (swp f i j) n i := by
  subst hi
  obtain ⟨i, hi⟩ : ∃ i, (j - 1) / 2 = i := ⟨_, rfl⟩
  rw [hi] at hl ⊢
  have hij : i < j := by omega
  obtain ⟨h1, h2⟩ := h
  refine ⟨fun k k0 hk hne => ?_, fun k k0 hk e i0 => ?_⟩
  · by_cases e : k = j
    · subst e
      rw [swp_j, hi, swp_i]
      exact o.asym _ _ hl
    · rw [swp_o _ hne e]
      by_cases p1 : (k - 1) / 2 = i
      · rw [p1, swp_i]
        cases q : lt (f k) (f j) with
        | false => rfl
        | true =>
          have := h1 k k0 hk e
          rw [p1, o.trans _ _ _ q hl] at this
          cases this
      · by_cases p2 : (k - 1) / 2 = j
        · rw [p2, swp_j]
          have := h2 k k0 hk p2 h0
          rwa [hi] at this
        · rw [swp_o _ p1 p2]
          exact h1 k k0 hk e
  · rw [swp_o (k := (i - 1) / 2) _ (by omega) (by omega)]
    have hii := h1 i i0 (by omega) (by omega)
    by_cases e2 : k = j
    · subst e2
      rw [swp_j]
      exact hii
    · rw [swp_o _ (by omega) e2]
      have := h1 k k0 hk e2
      rw [e] at this
      exact o.ntrans this hii
/-- As a heap, but for the place i, which may have to go down. -/
def DownH (lt : Nat → Nat → Bool) (f : Nat → Nat) (n i : Nat) : Prop :=
  (∀ k, 0 < k → k < n → (k - 1) / 2 ≠ i → lt (f k) (f ((k - 1) / 2)) = false) ∧ (∀ k, 0 < k → k < n → (k - 1) / 2 = i → 0 < i → lt (f k) (f ((i - 1) / 2)) = false)
theorem DownH.start {lt : Nat → Nat → Bool} {f : Nat → Nat} {n : Nat} (h : Heap lt f (n + 1)) : DownH lt (swp f 0 n) n 0 := by
  refine ⟨fun k h0 hk hne => ?_, fun k h0 hk e i0 => by omega⟩
  rw [swp_o _ (by omega) (by omega), swp_o _ hne (by omega)]
  exact h k h0 (by omega)
theorem DownH.done {lt : Nat → Nat → Bool} {f : Nat → Nat} {n i : Nat} (h : DownH lt f n i) (hd : ∀ k, 0 < k → k < n → (k - 1) / 2 = i → lt (f k) (f i) = false) : Heap lt f n := fun k h0 hk => by
  by_cases e : (k - 1) / 2 = i
  · rw [e]; exact hd k h0 hk e
  · exact h.1 k h0 hk e
theorem DownH.step {lt : Nat → Nat → Bool} (o : Ord lt) {f : Nat → Nat} {n i j : Nat} (h : DownH lt f n i) (hj : j < n) (j0 : 0 < j) (hi : (j - 1) / 2 = i)
    (hs : ∀ k, 0 < k → k < n → (k - 1) / 2 = i → lt (f k) (f j) = false) (hl : lt (f j) (f i) = true) : DownH lt (swp f i j) n j := by
  have hij : i < j := by omega
  obtain ⟨h1, h2⟩ := h
  refine ⟨fun k k0 hk hne => ?_, fun k k0 hk e _ => ?_⟩
  · by_cases p1 : (k - 1) / 2 = i
    · rw [p1, swp_i]
      by_cases e : k = j
      · subst e
        rw [swp_j]
        exact o.asym _ _ hl
      · rw [swp_o _ (by omega) e]
        exact hs k k0 hk p1
    · rw [swp_o (k := (k - 1) / 2) _ p1 hne]
      by_cases e : k = i
      · subst e
        rw [swp_i]
        exact h2 j j0 hj hi k0
      · rw [swp_o _ e (fun e2 => p1 (by rw [e2]; exact hi))]
        exact h1 k k0 hk p1
  · rw [hi, swp_i, swp_o _ (by omega) (by omega)]
    have := h1 k k0 hk (by omega)
    rwa [e] at this
/-- The numbers below n, in order. -/
structure InOrder (lt : Nat → Nat → Bool) (n : Nat) (l : List Nat) : Prop where
  rises : l.Pairwise (fun a b => lt a b = true)
  all : ∀ a, a ∈ l ↔ a < n
  len : l.length = n
theorem sorted_uniq {lt : Nat → Nat → Bool} (o : Ord lt) : ∀ {l m : List Nat}, l.Pairwise (fun a b => lt a b = true) → m.Pairwise (fun a b => lt a b = true) → (∀ a, a ∈ l ↔ a ∈ m) → l = m
  | [], [], _, _, _ => rfl
  | [], b :: m, _, _, h => absurd ((h b).2 (List.mem_cons_self ..)) (by simp)
  | a :: l, [], _, _, h => absurd ((h a).1 (List.mem_cons_self ..)) (by simp)
  | a :: l, b :: m, h1, h2, h => by
    rw [List.pairwise_cons] at h1 h2
    have e : a = b := by
      by_cases e : a = b
      · exact e
      · have q1 : lt b a = true := by
          rcases List.mem_cons.1 ((h a).1 (List.mem_cons_self ..)) with k | k
          · exact absurd k e
          · exact h2.1 a k
        have q2 : lt a b = true := by
          rcases List.mem_cons.1 ((h b).2 (List.mem_cons_self ..)) with k | k
          · exact absurd k.symm e
          · exact h1.1 b k
        have := o.asym a b q2
        rw [q1] at this
        cases this
    subst e
    congr 1
    refine sorted_uniq o h1.2 h2.2 fun c => ?_
    have hc := h c
    rw [List.mem_cons, List.mem_cons] at hc
    constructor
    · intro k
      rcases hc.1 (Or.inr k) with k2 | k2
      · have := h1.1 c k
        rw [k2, o.irr a] at this
        cases this
      · exact k2
    · intro k
      rcases hc.2 (Or.inr k) with k2 | k2
      · have := h2.1 c k
        rw [k2, o.irr a] at this
        cases this
      · exact k2
theorem InOrder.uniq {lt : Nat → Nat → Bool} (o : Ord lt) {n : Nat} {l m : List Nat} (h : InOrder lt n l) (k : InOrder lt n m) : l = m :=
  sorted_uniq o h.rises k.rises fun a => (h.all a).trans (k.all a).symm
/-- One more at the end of what has been taken out. -/
structure Taken (lt : Nat → Nat → Bool) (n : Nat) (out : List Nat) (f : Nat → Nat) (m : Nat) : Prop where
  rises : out.Pairwise (fun a b => lt a b = true)
  some' : Hold f m (fun a => a < n ∧ a ∉ out)
  below : ∀ a, a ∈ out → a < n
  ahead : ∀ a b, a ∈ out → b < n → b ∉ out → lt a b = true
  len : out.length + m = n
theorem Taken.start {lt : Nat → Nat → Bool} {n : Nat} {f : Nat → Nat} (h : Hold f n (fun a => a < n)) : Taken lt n [] f n :=
  ⟨List.Pairwise.nil, ⟨h.inj, fun a => by rw [← h.on]; simp⟩, fun a h => by simp at h, fun a b h => by simp at h, by simp⟩
theorem Taken.step {lt : Nat → Nat → Bool} (o : Ord lt) {n m x : Nat} {out : List Nat} {f f' : Nat → Nat} (h : Taken lt n out f (m + 1)) (hp : Heap lt f (m + 1)) (hx : f 0 = x) (hf : Hold f' m (fun a => (a < n ∧ a ∉ out) ∧ a ≠ x)) : Taken lt n (out ++ [x]) f' m := by
  have hxm : x < n ∧ x ∉ out := (h.some'.on x).2 ⟨0, by omega, hx⟩
  refine ⟨?_, ?_, ?_, ?_, ?_⟩
  · rw [List.pairwise_append]
    refine ⟨h.rises, List.pairwise_singleton _ _, fun a ha b hb => ?_⟩
    rw [List.mem_singleton.1 hb]
    exact h.ahead a x ha hxm.1 hxm.2
  · refine ⟨hf.inj, fun a => ?_⟩
    rw [← hf.on, List.mem_append, List.mem_singleton]
    constructor
    · rintro ⟨h1, h2⟩
      exact ⟨⟨h1, fun k => h2 (Or.inl k)⟩, fun k => h2 (Or.inr k)⟩
    · rintro ⟨⟨h1, h2⟩, h3⟩
      exact ⟨h1, fun k => k.elim h2 h3⟩
  · intro a ha
    rcases List.mem_append.1 ha with k | k
    · exact h.below a k
    · rw [List.mem_singleton.1 k]; exact hxm.1
  · intro a b ha hb hbn
    rw [List.mem_append, List.mem_singleton] at hbn
    rcases List.mem_append.1 ha with k | k
    · exact h.ahead a b k hb (fun q => hbn (Or.inl q))
    · rw [List.mem_singleton.1 k]
      obtain ⟨i, hi, e⟩ := (h.some'.on b).1 ⟨hb, fun q => hbn (Or.inl q)⟩
      have hl := Heap.least o hp i hi
      rw [hx, e] at hl
      exact o.total b x (fun q => hbn (Or.inr q)) hl
  · have := h.len
    rw [List.length_append, List.length_singleton]
    omega
theorem Taken.done {lt : Nat → Nat → Bool} {n : Nat} {out : List Nat} {f : Nat → Nat} (h : Taken lt n out f 0) : InOrder lt n out := by
  refine ⟨h.rises, fun a => ⟨h.below a, fun ha => ?_⟩, by have := h.len; omega⟩
  by_cases k : a ∈ out
  · exact k
  · obtain ⟨i, hi, _⟩ := (h.some'.on a).1 ⟨ha, k⟩
    omega
end Go.Proofs.YtbbbdcohkfijoaaGreatDoor

namespace Go.Proofs.YtbbbdcohkfijoaaGreatDoor
open Go.RowKit Go.Lib

abbrev iptr (b : Nat) : Value := .pointer (some ⟨b, 0, none⟩)
abbrev fval (f : FuncId) : Value := .func (.func f) #[] #[]
/-- The items' pointers, place by place. -/
def ptrs (p : Nat → Nat) (n : Nat) : List Value := (List.range n).map fun k => iptr (p k)
theorem ptrs_len (p : Nat → Nat) (n : Nat) : (ptrs p n).length = n := by unfold ptrs; rw [List.length_map, List.length_range]
theorem ptrs_at (p : Nat → Nat) {n k : Nat} (h : k < n) : (ptrs p n)[k]? = some (iptr (p k)) := by
  unfold ptrs
  rw [List.getElem?_map, List.getElem?_range h]
  rfl
theorem ptrs_congr {p q : Nat → Nat} {n : Nat} (h : ∀ k, k < n → p k = q k) : ptrs p n = ptrs q n := by
  unfold ptrs
  apply List.map_congr_left
  intro k hk
  rw [h k (List.mem_range.1 hk)]
theorem ptrs_set (p : Nat → Nat) (n k b : Nat) : (ptrs p n).set k (iptr b) = ptrs (fun j => if j = k then b else p j) n := by
  apply List.ext_getElem?
  intro j
  rw [List.getElem?_set]
  by_cases hj : j < n
  · rw [ptrs_at _ hj]
    by_cases e : k = j
    · subst e
      rw [if_pos rfl, if_pos (by rw [ptrs_len]; exact hj), ptrs_at _ hj, if_pos rfl]
    · rw [if_neg e, ptrs_at _ hj, if_neg (fun h => e h.symm)]
  · have h1 : ∀ q : Nat → Nat, (ptrs q n)[j]? = none := fun q => List.getElem?_eq_none (by rw [ptrs_len]; omega)
    rw [h1, h1]
    by_cases e : k = j
    · subst e
      rw [if_pos rfl, if_neg (by rw [ptrs_len]; exact hj)]
    · rw [if_neg e]
theorem ptrs_snoc (p : Nat → Nat) (n b : Nat) : ptrs p n ++ [iptr b] = ptrs (fun j => if j = n then b else p j) (n + 1) := by
  unfold ptrs
  rw [List.range_succ, List.map_append]
  congr 1
  · apply List.map_congr_left
    intro k hk
    have h := List.mem_range.1 hk
    show iptr (p k) = iptr (if k = n then b else p k)
    rw [if_neg (by omega)]
  · simp
theorem ptrs_take (p : Nat → Nat) {n m : Nat} (h : m ≤ n) : (ptrs p n).take m = ptrs p m := by
  apply List.ext_getElem?
  intro j
  by_cases hj : j < m
  · rw [List.getElem?_take_of_lt hj, ptrs_at _ (by omega), ptrs_at _ hj]
  · rw [List.getElem?_eq_none (by rw [List.length_take, ptrs_len]; omega), List.getElem?_eq_none (by rw [ptrs_len]; omega)]
/-- A queue in block g, its items' row in a block from B on. -/
structure Que (W : World) (B g : Nat) (fr fc : FuncId) (way : Int) (v : Value) (n : Nat) (p : Nat → Nat) : Prop where
  blk : Blk W g #[fval fr, fval fc, .int .i64 way, v] 133
  row : W.ownsRow B 134 1 v n (ptrs p n)
  ne : v.ownBlock ≠ some g
section
variable {W W' : World} {B g n : Nat} {fr fc : FuncId} {way : Int} {v : Value} {p : Nat → Nat}
theorem row_below {t : TypeId} {xs : List Value} (h : W.ownsRow B t 1 v n xs) (hb : Below W.heap.size W W') : W'.ownsRow B t 1 v n xs := by
  refine ⟨h.1, ?_⟩
  rcases h.2 with h0 | ⟨q, cap, cur, rfl, hB, hg, rest⟩
  · exact .inl h0
  · exact .inr ⟨q, cap, cur, rfl, hB, (hb.block q (Array.getElem?_eq_some_iff.1 hg).1).trans hg, rest⟩
theorem Que.below (h : Que W B g fr fc way v n p) (hb : Below W.heap.size W W') : Que W' B g fr fc way v n p :=
  ⟨h.blk.below hb h.blk.lt, row_below h.row hb, h.ne⟩
theorem Que.forms (h : Que W B g fr fc way v n p) : (v = .slice none 0 0 ∧ n = 0) ∨ ∃ q cap, v = .slice (some ⟨q, 0, none⟩) n cap ∧ q ≠ g ∧ B ≤ q ∧ q < W.heap.size ∧ n ≤ cap ∧ cap ≤ maxLen := by
  rcases h.row.2 with ⟨h1, h0⟩ | ⟨q, cap, cur, rfl, hb, hg, h1, h2, _⟩
  · exact .inl ⟨h1, h0⟩
  · exact .inr ⟨q, cap, rfl, fun e => h.ne (by rw [e]; rfl), hb, (Array.getElem?_eq_some_iff.1 hg).1, h1, h2⟩
theorem Que.slice (h : Que W B g fr fc way v n p) : ∃ A cap, v = .slice A n cap ∧ n ≤ cap ∧ cap ≤ maxLen := by
  rcases h.forms with ⟨rfl, rfl⟩ | ⟨q, cap, rfl, _, _, _, h1, h2⟩
  · exact ⟨none, 0, rfl, Nat.le_refl _, Nat.zero_le _⟩
  · exact ⟨_, cap, rfl, h1, h2⟩
/-- The row, where there is an item. -/
theorem Que.full (h : Que W B g fr fc way v n p) (hn : 0 < n) : ∃ q cap, v = .slice (some ⟨q, 0, none⟩) n cap ∧ q ≠ g ∧ B ≤ q ∧ q < W.heap.size ∧ n ≤ cap ∧ cap ≤ maxLen ∧ (∀ k, k < n → W.cell? ⟨q, k, none⟩ = some (iptr (p k))) ∧ (∀ k, W.frozen? ⟨q, k, none⟩ = false) := by
  rcases h.forms with ⟨_, h0⟩ | ⟨q, cap, rfl, h1, h2, h3, h4, h5⟩
  · omega
  · exact ⟨q, cap, rfl, h1, h2, h3, h4, h5, fun k hk => by rw [World.ownsRow.cellAt h.row k (by omega)]; exact ptrs_at p hk, fun k => World.ownsRow.frozenAt h.row k⟩
theorem Blk.four {a b c d : Value} {t : TypeId} (h : Blk W g #[a, b, c, d] t) : (W.cell? ⟨g, 0, none⟩ = some a ∧ W.cell? ⟨g, 1, none⟩ = some b ∧ W.cell? ⟨g, 2, none⟩ = some c ∧ W.cell? ⟨g, 3, none⟩ = some d) ∧ W.frozen? ⟨g, 3, none⟩ = false :=
  ⟨⟨h.cell 0, h.cell 1, h.cell 2, h.cell 3⟩, h.fro 3⟩
end
/-- A block of another type is not the items' row. -/
theorem Que.apart {W : World} {B g n b : Nat} {fr fc : FuncId} {way : Int} {v : Value} {p : Nat → Nat} {cs : Array Value} {t : TypeId} (h : Que W B g fr fc way v n p) (hb : Blk W b cs t) (ht : t ≠ 134) : some b ≠ v.ownBlock := by
  rcases h.row.2 with ⟨rfl, _⟩ | ⟨q, cap, cur, rfl, _, hg, _⟩
  · intro e; cases e
  · intro e
    have e2 : b = q := by
      have : some b = some q := e
      injection this
    subst e2
    rw [hb.row] at hg
    injection hg with hg
    injection hg with _ hg
    exact ht hg
/-- Two places change what they hold. -/
def swq (f : Nat → Nat) (i j : Nat) : Nat → Nat := fun k => if k = i then f j else if k = j then f i else f k
theorem srt_drewN {B : Nat} {a w : World} (h : Below B a w) (n : Nat) : Below B a (w.drewN n) := ⟨h.os, h.tape, h.output, h.size, h.block⟩
theorem qLen_any {W : World} {B g n : Nat} {fr fc : FuncId} {way : Int} {v : Value} {p : Nat → Nat} (h : Que W B g fr fc way v n p) :
    Calls Tryz.prog 97 #[iptr g] W fun e w' => e = .returned (.int .i64 n) ∧ W = w' := by
  obtain ⟨A, cap, rfl, hn, hc⟩ := h.slice
  obtain ⟨⟨_, _, _, c3⟩, _⟩ := h.blk.four
  unfold maxLen at hc
  clear h
  go_enter Tryz.func97, Tryz.ntmps97
  go_wp2
  go_ret
  exact ⟨rfl, rfl⟩
/-- Does an item come out ahead of another: by the order, then by the places in the list. -/
def lessB (r x y : Int) : Bool := if r = 0 then decide (x < y) else decide (r < 0)
set_option maxRecDepth 100000 in
set_option maxHeartbeats 2000000 in
theorem qLess_any {W : World} {B g n : Nat} {fr fc : FuncId} {way : Int} {v : Value} {p : Nat → Nat} (h : Que W B g fr fc way v n p) (i j : Nat) (hi : i < n) (hj : j < n) {x y c r : Int}
    (hx : W.cell? ⟨p i, 0, none⟩ = some (.int .i64 x)) (hy : W.cell? ⟨p j, 0, none⟩ = some (.int .i64 y)) (hr : IntKind.i64.wrap (c * way) = r)
    (eg : ∀ (args : Array Value) (w : World), (callFunc fc args).run Tryz.prog w = .ok (.enter fc args) w) (hC : ∀ W', Below W.heap.size W W' → Calls Tryz.prog fc #[iptr (p i), iptr (p j)] W' fun e w' => e = .returned (.int .i64 c) ∧ Below W'.heap.size W' w') :
    Calls Tryz.prog 366 #[iptr g, .int .i64 (i : Int), .int .i64 (j : Int)] W fun e w' => e = .returned (.bool (lessB r x y)) ∧ Below W.heap.size W w' := by
  obtain ⟨q, cap, rfl, hqg, hBq, hql, hn, hc, hcell, -⟩ := h.full (by omega)
  have ci := hcell i hi
  have cj := hcell j hj
  obtain ⟨⟨_, c1, c2, c3⟩, _⟩ := h.blk.four
  unfold maxLen at hc
  have hi1 : (i : Int) < (n : Int) := by omega
  have hj1 : (j : Int) < (n : Int) := by omega
  have hi0 : (0 : Int) ≤ (i : Int) := by omega
  have hj0 : (0 : Int) ≤ (j : Int) := by omega
  have CC := Lib.hid hC
  have HC2 := Lib.hid (fun (W' : World) (hb : Below W.heap.size W W') => (show W'.cell? ⟨g, 1, none⟩ = some (fval fc) ∧ W'.cell? ⟨g, 2, none⟩ = some (.int .i64 way) from ⟨(h.blk.below hb h.blk.lt).cell 1, (h.blk.below hb h.blk.lt).cell 2⟩))
  have HXY := Lib.hid (fun (W' : World) (hb : Below W.heap.size W W') => (show W'.cell? ⟨p i, 0, none⟩ = some (.int .i64 x) ∧ W'.cell? ⟨p j, 0, none⟩ = some (.int .i64 y) from ⟨(hb.cell (World.block_lt_of_cell? W _ hx)).trans hx, (hb.cell (World.block_lt_of_cell? W _ hy)).trans hy⟩))
  obtain ⟨a, ha⟩ : ∃ a, p i = a := ⟨_, rfl⟩
  obtain ⟨b, hb⟩ : ∃ b, p j = b := ⟨_, rfl⟩
  rw [ha] at ci CC HXY
  rw [hb] at cj CC HXY
  have hR := Below.refl W.heap.size W
  clear h hC hcell hx hy ha hb
  go_enter Tryz.func366, Tryz.ntmps366
  go_wp2_with fail
  go_quiet (fail)
  go_wp2_with fail
  go_region_held3 (fun w' => w'.cell? ⟨g, 1, none⟩ = some (fval fc) ∧ w'.cell? ⟨g, 2, none⟩ = some (.int .i64 way))
    (first | (with_reducible exact S2) | (with_reducible exact S1) | go_keep)
    (first | ((with_reducible refine (CC.out _ (by first | exact hR | exact hR.drew | exact srt_drewN hR _)).mono ?_); rintro e W4 ⟨rfl, h4⟩; have b4 : Below W.heap.size W W4 := ⟨h4.os, h4.tape, h4.output, h4.size, h4.block⟩; have S2 := HC2.out _ b4; clear h4))
  all_goals
    obtain ⟨x4, y4⟩ := HXY.out _ b4
    clear S2 ci cj c1 c2 c3 hr CC HC2 HXY
    by_cases h0 : r = 0
    · have e1 : (r != 0) = false := by rw [h0]; rfl
      have e2 : lessB r x y = decide (x < y) := if_pos h0
      have E2 := Lib.hid e2
      clear h0 e2
      go_wp2_with fail
      go_quiet (fail)
      go_wp2_with fail
      go_ret
      exact ⟨by rw [E2.out]; rfl, by first | exact b4 | exact srt_drewN b4 _⟩
    · have e1 : (r != 0) = true := by rw [bne_iff_ne]; exact h0
      have e2 : lessB r x y = decide (r < 0) := if_neg h0
      have E2 := Lib.hid e2
      clear h0 e2
      go_wp2_with fail
      go_ret
      exact ⟨by rw [E2.out]; rfl, by first | exact b4 | exact srt_drewN b4 _⟩
theorem ptrs_swap (p : Nat → Nat) (n i j : Nat) : ((ptrs p n).set i (iptr (p j))).set j (iptr (p i)) = ptrs (swq p i j) n := by
  rw [ptrs_set, ptrs_set]
  apply ptrs_congr
  intro k _
  unfold swq
  by_cases h1 : k = j
  · by_cases h2 : k = i
    · rw [if_pos h1, if_pos h2, ← h1, ← h2]
    · rw [if_pos h1, if_neg h2, if_pos h1]
  · rw [if_neg h1]
    by_cases h2 : k = i
    · rw [if_pos h2, if_pos h2]
    · rw [if_neg h2, if_neg h2, if_neg h1]
theorem srt_grown_set (W : World) (q j : Nat) (u : Value) : W.grownBy (W.setCell ⟨q, j, none⟩ u) (some q) := by
  have b := (Below.refl 0 W).setCell (p := ⟨q, j, none⟩) (Nat.zero_le _) u
  exact ⟨b.os, b.tape, b.output, b.size, fun i _ h => Below.heap_setCell W ⟨q, j, none⟩ u i (fun e => h (by rw [e]))⟩
set_option maxRecDepth 100000 in
set_option maxHeartbeats 4000000 in
theorem qSwap_any {W : World} {B g n : Nat} {fr fc : FuncId} {way : Int} {v : Value} {p : Nat → Nat} (h : Que W B g fr fc way v n p) (i j : Nat) (hi : i < n) (hj : j < n) :
    Calls Tryz.prog 369 #[iptr g, .int .i64 (i : Int), .int .i64 (j : Int)] W fun e w' => e = .returned (.tuple #[]) ∧ Que w' B g fr fc way v n (swq p i j) ∧ W.grownBy w' v.ownBlock := by
  obtain ⟨q, cap, rfl, hqg, hBq, hql, hn, hc, hcell, hfro⟩ := h.full (by omega)
  have ci := hcell i hi
  have cj := hcell j hj
  have fi := hfro i
  have fj := hfro j
  obtain ⟨⟨_, _, _, c3⟩, _⟩ := h.blk.four
  unfold maxLen at hc
  have hi1 : (i : Int) < (n : Int) := by omega
  have hj1 : (j : Int) < (n : Int) := by omega
  have hi0 : (0 : Int) ≤ (i : Int) := by omega
  have hj0 : (0 : Int) ≤ (j : Int) := by omega
  have H := Lib.hid h
  obtain ⟨a, ha⟩ : ∃ a, p i = a := ⟨_, rfl⟩
  obtain ⟨b, hb⟩ : ∃ b, p j = b := ⟨_, rfl⟩
  rw [ha] at ci
  rw [hb] at cj
  have HA := Lib.hid ha
  have HB := Lib.hid hb
  obtain ⟨cj2, hcj2⟩ := cell?_setCell_some (w := W) (p := ⟨q, i, none⟩) (x := .pointer (some ⟨b, 0, none⟩)) (q := ⟨q, j, none⟩) (v := iptr b) cj
  clear h hcell hfro ha hb
  go_enter Tryz.func369, Tryz.ntmps369
  go_wp2_with fail
  go_region
  all_goals
    go_end0
    have r1 := (World.ownsRow.stored H.out.row i (iptr b)).1
    have r2 := (World.ownsRow.stored r1 j (iptr a)).1
    rw [← HA.out, ← HB.out, ptrs_swap] at r2
    have g1 := srt_grown_set W q i (iptr b)
    have g2 := g1.trans (srt_grown_set (W.setCell ⟨q, i, none⟩ (iptr b)) q j (iptr a))
    have k1 := (H.out.blk.other (j := i) (u := iptr b) hqg.symm).other (j := j) (u := iptr a) hqg.symm
    rw [← HA.out, ← HB.out] at k1 g2
    rw [← HA.out, ← HB.out]
    exact ⟨rfl, ⟨⟨k1.row⟩, r2, H.out.ne⟩, ⟨g2.os, g2.tape, g2.output, g2.size, g2.block⟩⟩
end Go.Proofs.YtbbbdcohkfijoaaGreatDoor

namespace Go.Proofs.YtbbbdcohkfijoaaGreatDoor
open Go.RowKit Go.Lib

/-- What an entry is. -/
structure Dat where
  key : ByteArray
  kind : Int
  num : Nat
  str : ByteArray
  sub : Bool
def itC (a : Nat) (d : Dat) : Array Value := #[.int .i64 (a : Int), .string d.key, .int .i64 d.kind, .float .f64 d.num, .string d.str, .bool d.sub]
/-- Item number a lies in block ib a. -/
abbrev Itm (W : World) (ib : Nat → Nat) (d : Nat → Dat) (a : Nat) : Prop := Blk W (ib a) (itC a (d a)) 136
theorem Itm.at {W : World} {ib : Nat → Nat} {d : Nat → Dat} {a : Nat} (h : Itm W ib d a) : W.cell? ⟨ib a, 0, none⟩ = some (.int .i64 (a : Int)) := h.cell 0
/-- A queue of the items below N: f tells which of them stands at a place. -/
structure Stt (W : World) (w0 wz : World) (B g : Nat) (fr fc : FuncId) (way : Int) (v : Value) (n N : Nat) (f ib : Nat → Nat) (d : Nat → Dat) : Prop where
  que : Que W B g fr fc way v n (fun k => ib (f k))
  its : ∀ a, a < N → Itm W ib d a
  bel : Below B w0 W
  lim : B ≤ W.heap.size
  old : B ≤ g
  kept : ∀ b cs t, t ≠ 133 → t ≠ 134 → t ≠ 136 → Blk wz b cs t → Blk W b cs t
section
variable {W W' w0 wz : World} {B g n N : Nat} {fr fc : FuncId} {way : Int} {v : Value} {f ib : Nat → Nat} {d : Nat → Dat}
theorem Stt.below (h : Stt W w0 wz B g fr fc way v n N f ib d) (hb : Below W.heap.size W W') : Stt W' w0 wz B g fr fc way v n N f ib d :=
  ⟨h.que.below hb, fun a ha => (h.its a ha).below hb (h.its a ha).lt, h.bel.trans (hb.mono h.lim), Nat.le_trans h.lim hb.size, h.old, fun b cs t h1 h2 h3 k => (h.kept b cs t h1 h2 h3 k).below hb (h.kept b cs t h1 h2 h3 k).lt⟩
theorem Stt.row (h : Stt W w0 wz B g fr fc way v n N f ib d) : ∀ k, v.ownBlock = some k → B ≤ k := fun k hk => (World.ownsRow.lt h.que.row k hk).1
theorem Stt.grown (h : Stt W w0 wz B g fr fc way v n N f ib d) (hg : W.grownBy W' v.ownBlock) {v' : Value} {m : Nat} {f' : Nat → Nat} (hq : Que W' B g fr fc way v' m (fun k => ib (f' k))) : Stt W' w0 wz B g fr fc way v' m N f' ib d :=
  ⟨hq, fun a ha => (h.its a ha).grown hg (h.que.apart (h.its a ha) (by decide)), h.bel.grown hg h.lim h.row, Nat.le_trans h.lim hg.size, h.old, fun b cs t h1 h2 h3 k => (h.kept b cs t h1 h2 h3 k).grown hg (h.que.apart (h.kept b cs t h1 h2 h3 k) h2)⟩
theorem Stt.base (h : Stt W w0 wz B g fr fc way v n N f ib d) : Stt W w0 W B g fr fc way v n N f ib d := ⟨h.que, h.its, h.bel, h.lim, h.old, fun _ _ _ _ _ _ k => k⟩
theorem Stt.swap (h : Stt W w0 wz B g fr fc way v n N f ib d) {i j : Nat} (hq : Que W' B g fr fc way v n (swq (fun k => ib (f k)) i j)) (hg : W.grownBy W' v.ownBlock) : Stt W' w0 wz B g fr fc way v n N (swp f i j) ib d := by
  refine h.grown hg ?_
  have e : (fun k => ib (swp f i j k)) = swq (fun k => ib (f k)) i j := by
    funext k
    unfold swp swq
    split
    · rfl
    · split <;> rfl
  rw [e]
  exact hq
end
/-- What the order's comparison answers of two items, whatever has turned since. -/
def Compares (w0 : World) (B : Nat) (fc : FuncId) (N : Nat) (ib : Nat → Nat) (d : Nat → Dat) (cv : Nat → Nat → Int) : Prop :=
  ∀ W a b, a < N → b < N → Below B w0 W → Itm W ib d a → Itm W ib d b → Calls Tryz.prog fc #[iptr (ib a), iptr (ib b)] W fun e w' => e = .returned (.int .i64 (cv a b)) ∧ Below W.heap.size W w'
/-- A function that is entered when it is called. -/
abbrev Enters (fc : FuncId) : Prop := ∀ (args : Array Value) (w : World), (callFunc fc args).run Tryz.prog w = .ok (.enter fc args) w
def ltV (cv : Nat → Nat → Int) (way : Int) (a b : Nat) : Bool := lessB (IntKind.i64.wrap (cv a b * way)) (a : Int) (b : Int)
theorem sLess_any {W w0 wz : World} {B g n N : Nat} {fr fc : FuncId} {way : Int} {v : Value} {f ib : Nat → Nat} {d : Nat → Dat} {cv : Nat → Nat → Int} (h : Stt W w0 wz B g fr fc way v n N f ib d) (eg : Enters fc) (hC : Compares w0 B fc N ib d cv) (i j : Nat) (hi : i < n) (hj : j < n) (fi : f i < N) (fj : f j < N) :
    Calls Tryz.prog 366 #[iptr g, .int .i64 (i : Int), .int .i64 (j : Int)] W fun e w' => e = .returned (.bool (ltV cv way (f i) (f j))) ∧ Below W.heap.size W w' :=
  qLess_any h.que i j hi hj (h.its _ fi).at (h.its _ fj).at rfl eg (fun W' hb => hC W' _ _ fi fj (h.bel.trans (hb.mono h.lim)) ((h.its _ fi).below hb (h.its _ fi).lt) ((h.its _ fj).below hb (h.its _ fj).lt))
abbrev hif (g : Nat) : Value := .iface 138 (iptr g)
theorem m_less (g : Nat) (w : World) : (method 489 138 (iptr g) "Less").run Tryz.prog w = .ok (366, iptr g) w := by kernel_rfl
theorem m_swap (g : Nat) (w : World) : (method 489 138 (iptr g) "Swap").run Tryz.prog w = .ok (369, iptr g) w := by kernel_rfl
theorem m_len (g : Nat) (w : World) : (method 489 138 (iptr g) "Len").run Tryz.prog w = .ok (97, iptr g) w := by kernel_rfl
theorem m_push (g : Nat) (w : World) : (method 489 138 (iptr g) "Push").run Tryz.prog w = .ok (368, iptr g) w := by kernel_rfl
theorem m_pop (g : Nat) (w : World) : (method 489 138 (iptr g) "Pop").run Tryz.prog w = .ok (367, iptr g) w := by kernel_rfl
/-- A heap in a queue. -/
def HeapEnd (w0 wz : World) (B g : Nat) (fr fc : FuncId) (way : Int) (v : Value) (n N : Nat) (ib : Nat → Nat) (d : Nat → Dat) (lt : Nat → Nat → Bool) (S : Nat → Prop) (W : World) : Prop :=
  ∃ f, Stt W w0 wz B g fr fc way v n N f ib d ∧ Heap lt f n ∧ Hold f n S
set_option maxRecDepth 100000 in
set_option maxHeartbeats 4000000 in
theorem up_any {W w0 wz : World} {B g n N j : Nat} {fr fc : FuncId} {way : Int} {v : Value} {f ib : Nat → Nat} {d : Nat → Dat} {cv : Nat → Nat → Int} {S : Nat → Prop} (o : Ord (ltV cv way)) (eg : Enters fc) (hC : Compares w0 B fc N ib d cv) (hS : ∀ a, S a → a < N) (hn : n ≤ 1000000)
    (h : Stt W w0 wz B g fr fc way v n N f ib d) (hU : UpH (ltV cv way) f n j) (hH : Hold f n S) (hj : j < n) :
    Calls Tryz.prog 151 #[hif g, .int .i64 (j : Int)] W fun e w' => (∃ r, e = .returned r) ∧ HeapEnd w0 wz B g fr fc way v n N ib d (ltV cv way) S w' := by
  have hl := fun w => m_less g w
  have hs := fun w => m_swap g w
  have HC := Lib.hid hC
  have HO := Lib.hid o
  have HS := Lib.hid hS
  have HEG := Lib.hid eg
  clear eg
  go_enter Tryz.func151, Tryz.ntmps151
  go_wp2
  go_loopw [1] (fun jv wr => ∃ j f, jv = .int .i64 ((j : Nat) : Int) ∧ j < n ∧ Stt wr w0 wz B g fr fc way v n N f ib d ∧ UpH (ltV cv way) f n j ∧ Hold f n S) (fun jv _ => (RowKit.intOf jv).toNat)
  case atStart => exact ⟨j, f, rfl, hj, h, hU, hH⟩
  case round =>
    clear h hU hH hC o hj hS
    obtain ⟨j, f, rfl, hj, h, hU, hH⟩ := hrel
    have HST := Lib.hid h
    have HU := Lib.hid hU
    have HH := Lib.hid hH
    clear h hU hH
    by_cases h0 : j = 0
    · subst h0
      go_wp2_with fail
      go_end0
      exact ⟨⟨_, rfl⟩, f, HST.out, HU.out.done (Or.inl rfl), HH.out⟩
    · obtain ⟨i, hi⟩ : ∃ i, (j - 1) / 2 = i := ⟨_, rfl⟩
      have e1 : ((j : Int) - 1) / 2 = (i : Int) := by omega
      have hij : i < j := by omega
      have hne : ((i : Int) == (j : Int)) = false := by rw [beq_eq_false_iff_ne]; omega
      have HI := Lib.hid hi
      have fi : f i < N := HS.out _ ((HH.out.on _).2 ⟨i, by omega, rfl⟩)
      have fj : f j < N := HS.out _ ((HH.out.on _).2 ⟨j, hj, rfl⟩)
      have CL := Lib.hid (sLess_any HST.out HEG.out HC.out j i hj (by omega) fj fi)
      obtain ⟨b, hb⟩ : ∃ b, ltV cv way (f j) (f i) = b := ⟨_, rfl⟩
      rw [hb] at CL
      have HLB := Lib.hid hb
      clear hi hb
      go_wp2_with fail
      refine CL.out.mono ?_
      rintro e W2 ⟨rfl, h2⟩
      have HS2 := Lib.hid (HST.out.below h2)
      clear h2 HST CL
      cases b with
      | false =>
        go_wp2_with fail
        go_end0
        exact ⟨⟨_, rfl⟩, f, HS2.out, HU.out.done (Or.inr (by rw [HI.out]; exact HLB.out)), HH.out⟩
      | true =>
        have CS := Lib.hid (qSwap_any HS2.out.que i j (by omega) hj)
        go_wp2_with fail
        refine CS.out.mono ?_
        rintro e W3 ⟨rfl, hq, hg⟩
        have HS3 := Lib.hid (HS2.out.swap hq hg)
        clear hq hg HS2 CS
        go_wp2_with fail
        go_roundw
        case rel => exact ⟨i, swp f i j, by go_num, by omega, HS3.out, UpH.step HO.out HU.out (by omega) hj HI.out HLB.out, HH.out.swp (by omega) hj⟩
        case measure => simp [RowKit.intOf]; omega
/-- A heap below a place that stays. -/
def DownEnd (w0 wz : World) (B g : Nat) (fr fc : FuncId) (way : Int) (v : Value) (n N m x : Nat) (ib : Nat → Nat) (d : Nat → Dat) (lt : Nat → Nat → Bool) (S : Nat → Prop) (W : World) : Prop :=
  ∃ f, Stt W w0 wz B g fr fc way v n N f ib d ∧ Heap lt f m ∧ Hold f m S ∧ f m = x
set_option maxRecDepth 100000 in
set_option maxHeartbeats 8000000 in
theorem down_any {W w0 wz : World} {B g n N m x : Nat} {fr fc : FuncId} {way : Int} {v : Value} {f ib : Nat → Nat} {d : Nat → Dat} {cv : Nat → Nat → Int} {S : Nat → Prop} (o : Ord (ltV cv way)) (eg : Enters fc) (hC : Compares w0 B fc N ib d cv) (hS : ∀ a, S a → a < N) (hn : n ≤ 1000000) (hm : m ≤ n)
    (h : Stt W w0 wz B g fr fc way v n N f ib d) (hU : DownH (ltV cv way) f m 0) (hH : Hold f m S) (hx : f m = x) :
    Calls Tryz.prog 152 #[hif g, .int .i64 0, .int .i64 (m : Int)] W fun e w' => (∃ r, e = .returned r) ∧ DownEnd w0 wz B g fr fc way v n N m x ib d (ltV cv way) S w' := by
  have hl := fun w => m_less g w
  have hs := fun w => m_swap g w
  have HC := Lib.hid hC
  have HO := Lib.hid o
  have HS := Lib.hid hS
  have HEG := Lib.hid eg
  clear eg
  go_enter Tryz.func152, Tryz.ntmps152
  go_wp2
  go_loopw [7] (fun iv wr => ∃ i f, iv = .int .i64 ((i : Nat) : Int) ∧ (i < m ∨ i = 0) ∧ Stt wr w0 wz B g fr fc way v n N f ib d ∧ DownH (ltV cv way) f m i ∧ Hold f m S ∧ f m = x) (fun iv _ => n - (RowKit.intOf iv).toNat)
  case atStart => exact ⟨0, f, rfl, Or.inr rfl, h, hU, hH, hx⟩
  case round =>
    clear h hU hH hC o hS hx
    obtain ⟨i, f, rfl, hi, h, hU, hH, hx⟩ := hrel
    have hin : i ≤ n := by omega
    have HII := Lib.hid hi
    have HST := Lib.hid h
    have HU := Lib.hid hU
    have HH := Lib.hid hH
    have HX := Lib.hid hx
    clear h hU hH hi hx
    by_cases h1 : m ≤ 2 * i + 1
    · have k1 : (m : Int) ≤ 2 * (i : Int) + 1 := by omega
      go_wp2_with fail
      go_ret
      exact ⟨⟨_, rfl⟩, f, HST.out, HU.out.done (fun k k0 k1 k2 => by omega), HH.out, HX.out⟩
    · have k1 : ¬ (m : Int) ≤ 2 * (i : Int) + 1 := by omega
      have fm : ∀ k, k < m → f k < N := fun k hk => HS.out _ ((HH.out.on _).2 ⟨k, hk, rfl⟩)
      have FM := Lib.hid fm
      clear fm
      obtain ⟨j1, hj1⟩ : ∃ j1, 2 * i + 1 = j1 := ⟨_, rfl⟩
      have q1 : 2 * (i : Int) + 1 = (j1 : Int) := by omega
      have hjm : j1 < m := by omega
      have hj1a : (j1 - 1) / 2 = i ∧ 0 < j1 ∧ i < j1 := by omega
      by_cases h2 : j1 + 1 < m
      · have k2 : (j1 : Int) + 1 < (m : Int) := by omega
        obtain ⟨j2, hj2⟩ : ∃ j2, j1 + 1 = j2 := ⟨_, rfl⟩
        have q2 : (j1 : Int) + 1 = (j2 : Int) := by omega
        have hj2m : j2 < m := by omega
        have hj2a : (j2 - 1) / 2 = i ∧ 0 < j2 ∧ i < j2 := by omega
        have CL := Lib.hid (sLess_any HST.out HEG.out HC.out j2 j1 (by omega) (by omega) (FM.out _ hj2m) (FM.out _ hjm))
        obtain ⟨b, hb⟩ : ∃ b, ltV cv way (f j2) (f j1) = b := ⟨_, rfl⟩
        rw [hb] at CL
        have HLB := Lib.hid hb
        clear hb
        go_wp2_with fail
        refine CL.out.mono ?_
        rintro e W2 ⟨rfl, h2⟩
        have HS2 := Lib.hid (HST.out.below h2)
        clear h2 HST CL
        cases b with
        | true =>
          have hs : ∀ k, 0 < k → k < m → (k - 1) / 2 = i → ltV cv way (f k) (f j2) = false := fun k k0 k1 k2 => by
            rcases (by omega : k = j1 ∨ k = j2) with rfl | rfl
            · exact HO.out.asym _ _ HLB.out
            · exact HO.out.irr _
          have HSS := Lib.hid hs
          clear hs
          have CL2 := Lib.hid (sLess_any HS2.out HEG.out HC.out j2 i (by omega) (by omega) (FM.out _ (by omega)) (FM.out _ (by omega)))
          obtain ⟨b2, hb2⟩ : ∃ b, ltV cv way (f j2) (f i) = b := ⟨_, rfl⟩
          rw [hb2] at CL2
          have HLB2 := Lib.hid hb2
          clear hb2
          go_wp2_with fail
          refine CL2.out.mono ?_
          rintro e W3 ⟨rfl, h3⟩
          have HS3 := Lib.hid (HS2.out.below h3)
          clear h3 CL2
          cases b2 with
          | false =>
            go_wp2_with fail
            go_ret
            exact ⟨⟨_, rfl⟩, f, HS3.out, HU.out.done (fun k k0 k1 k2 => HO.out.ntrans (HSS.out k k0 k1 k2) HLB2.out), HH.out, HX.out⟩
          | true =>
            have CS := Lib.hid (qSwap_any HS3.out.que i j2 (by omega) (by omega))
            go_wp2_with fail
            refine CS.out.mono ?_
            rintro e W4 ⟨rfl, hq, hg⟩
            have HS4 := Lib.hid (HS3.out.swap hq hg)
            clear hq hg HS3 CS
            go_wp2_with fail
            go_roundw
            case rel => exact ⟨j2, swp f i j2, by go_num, Or.inl (by omega), HS4.out, DownH.step HO.out HU.out (by omega) (by omega) (by omega) HSS.out HLB2.out, HH.out.swp (by omega) (by omega), by rw [swp_o _ (by omega) (by omega)]; exact HX.out⟩
            case measure => simp [RowKit.intOf]; omega
        | false =>
          have hs : ∀ k, 0 < k → k < m → (k - 1) / 2 = i → ltV cv way (f k) (f j1) = false := fun k k0 k1 k2 => by
            rcases (by omega : k = j1 ∨ k = j2) with rfl | rfl
            · exact HO.out.irr _
            · exact HLB.out
          have HSS := Lib.hid hs
          clear hs
          have CL2 := Lib.hid (sLess_any HS2.out HEG.out HC.out j1 i (by omega) (by omega) (FM.out _ (by omega)) (FM.out _ (by omega)))
          obtain ⟨b2, hb2⟩ : ∃ b, ltV cv way (f j1) (f i) = b := ⟨_, rfl⟩
          rw [hb2] at CL2
          have HLB2 := Lib.hid hb2
          clear hb2
          go_wp2_with fail
          refine CL2.out.mono ?_
          rintro e W3 ⟨rfl, h3⟩
          have HS3 := Lib.hid (HS2.out.below h3)
          clear h3 CL2
          cases b2 with
          | false =>
            go_wp2_with fail
            go_ret
            exact ⟨⟨_, rfl⟩, f, HS3.out, HU.out.done (fun k k0 k1 k2 => HO.out.ntrans (HSS.out k k0 k1 k2) HLB2.out), HH.out, HX.out⟩
          | true =>
            have CS := Lib.hid (qSwap_any HS3.out.que i j1 (by omega) (by omega))
            go_wp2_with fail
            refine CS.out.mono ?_
            rintro e W4 ⟨rfl, hq, hg⟩
            have HS4 := Lib.hid (HS3.out.swap hq hg)
            clear hq hg HS3 CS
            go_wp2_with fail
            go_roundw
            case rel => exact ⟨j1, swp f i j1, by go_num, Or.inl (by omega), HS4.out, DownH.step HO.out HU.out (by omega) (by omega) (by omega) HSS.out HLB2.out, HH.out.swp (by omega) (by omega), by rw [swp_o _ (by omega) (by omega)]; exact HX.out⟩
            case measure => simp [RowKit.intOf]; omega
      · have k2 : ¬ (j1 : Int) + 1 < (m : Int) := by omega
        have hs : ∀ k, 0 < k → k < m → (k - 1) / 2 = i → ltV cv way (f k) (f j1) = false := fun k k0 k1 k2 => by
          obtain rfl : k = j1 := by omega
          exact HO.out.irr _
        have HSS := Lib.hid hs
        clear hs
        have CL2 := Lib.hid (sLess_any HST.out HEG.out HC.out j1 i (by omega) (by omega) (FM.out _ (by omega)) (FM.out _ (by omega)))
        obtain ⟨b2, hb2⟩ : ∃ b, ltV cv way (f j1) (f i) = b := ⟨_, rfl⟩
        rw [hb2] at CL2
        have HLB2 := Lib.hid hb2
        clear hb2
        go_wp2_with fail
        refine CL2.out.mono ?_
        rintro e W3 ⟨rfl, h3⟩
        have HS3 := Lib.hid (HST.out.below h3)
        clear h3 CL2
        cases b2 with
        | false =>
          go_wp2_with fail
          go_ret
          exact ⟨⟨_, rfl⟩, f, HS3.out, HU.out.done (fun k k0 k1 k2 => HO.out.ntrans (HSS.out k k0 k1 k2) HLB2.out), HH.out, HX.out⟩
        | true =>
          have CS := Lib.hid (qSwap_any HS3.out.que i j1 (by omega) (by omega))
          go_wp2_with fail
          refine CS.out.mono ?_
          rintro e W4 ⟨rfl, hq, hg⟩
          have HS4 := Lib.hid (HS3.out.swap hq hg)
          clear hq hg HS3 CS
          go_wp2_with fail
          go_roundw
          case rel => exact ⟨j1, swp f i j1, by go_num, Or.inl (by omega), HS4.out, DownH.step HO.out HU.out (by omega) (by omega) (by omega) HSS.out HLB2.out, HH.out.swp (by omega) (by omega), by rw [swp_o _ (by omega) (by omega)]; exact HX.out⟩
          case measure => simp [RowKit.intOf]; omega
end Go.Proofs.YtbbbdcohkfijoaaGreatDoor

namespace Go.Proofs.YtbbbdcohkfijoaaGreatDoor
open Go.RowKit Go.Lib

/-- 'append' as a step of a region that draws, by a known run. -/
theorem step_append_val {P : Program} {ops : Array Oper} {o : Oper} {a : Act} {w : World} {K : Act → World → Prop} {Q : Exit → Act → World → Prop} {E : Prop}
    (hg : o.guard = none) (d x : Operand) (dT sT : TypeId) (hop : o.op = Op.call { callee := Callee.builtin Builtin.append, args := #[d, x], argTypes := #[dT, sT] })
    (v : Value) (hd : a.eval d = v) (t : Value) (hx : a.eval x = t) (v' : Value) (w' : World) (hrun : (Builtin.append_ #[dT, sT] o.type #[v, t]).run P w = .ok v' w')
    (hK : K (a.put o.dst v') w') : if Region.wanted o (yielded ops a.tmps) = true then Oper.wp P o a w K Q else E := by
  have hw : Region.wanted o (yielded ops a.tmps) = true := by simp [Region.wanted, hg]
  rw [if_pos hw]
  unfold Oper.wp
  simp [execOp, hop, resolve, invoke, builtin, hd, hx, hrun, Result.andThen]
  exact hK
theorem info_item : (Tryz.prog.info? 134).map (fun i => (i.zero, i.size, i.bytes)) = some (some (.pointer none), 1, 8) := by kernel_rfl
abbrev iif (b : Nat) : Value := .iface 134 (iptr b)
theorem ta_item (v : Value) (w : World) : (Instr.typeAssert (.iface 134 v) 20 134 false).run Tryz.prog w = .ok v w := by kernel_rfl
theorem ptrs_push (ib f : Nat → Nat) (n x : Nat) : ptrs (fun k => ib (f k)) n ++ [iptr (ib x)] = ptrs (fun k => ib (if k = n then x else f k)) (n + 1) := by
  rw [ptrs_snoc]
  apply ptrs_congr
  intro k _
  show (if k = n then ib x else ib (f k)) = ib (if k = n then x else f k)
  split <;> rfl
theorem Blk.ne {W : World} {b c : Nat} {cs ds : Array Value} {t u : TypeId} (h : Blk W b cs t) (k : Blk W c ds u) (ht : t ≠ u) : b ≠ c := by
  rintro rfl
  have := h.row.symm.trans k.row
  injection this with this
  injection this with _ this
  exact ht this
/-- The queue's slice set anew. -/
theorem Stt.put {W w0 wz : World} {B g n N : Nat} {fr fc : FuncId} {way : Int} {v0 v : Value} {f ib : Nat → Nat} {d : Nat → Dat} (hg : Blk W g #[fval fr, fval fc, .int .i64 way, v0] 133) (hr : W.ownsRow B 134 1 v n (ptrs (fun k => ib (f k)) n)) (hne : v.ownBlock ≠ some g)
    (hi : ∀ a, a < N → Itm W ib d a) (hb : Below B w0 W) (hl : B ≤ W.heap.size) (ho : B ≤ g) (hk : ∀ b cs t, t ≠ 133 → t ≠ 134 → t ≠ 136 → Blk wz b cs t → Blk W b cs t) : Stt (W.setCell ⟨g, 3, none⟩ v) w0 wz B g fr fc way v n N f ib d :=
  ⟨⟨hg.set (j := 3) (u := v), World.ownsRow.kept hr (srt_grown_set W g 3 v) (Or.inr hne), hne⟩, fun a ha => (hi a ha).other ((hi a ha).ne hg (by decide)), hb.setCell (p := ⟨g, 3, none⟩) ho v, by simpa [World.setCell] using hl, ho, fun b cs t h1 h2 h3 k => (hk b cs t h1 h2 h3 k).other ((hk b cs t h1 h2 h3 k).ne hg h1)⟩
set_option maxRecDepth 100000 in
set_option maxHeartbeats 4000000 in
theorem sPush_any {W w0 wz : World} {B g n N x : Nat} {fr fc : FuncId} {way : Int} {v : Value} {f ib : Nat → Nat} {d : Nat → Dat} (h : Stt W w0 wz B g fr fc way v n N f ib d) (hn : n ≤ 1000000) :
    Calls Tryz.prog 368 #[iptr g, iif (ib x)] W fun e w' => (∃ r, e = .returned r) ∧ ∃ v', Stt w' w0 wz B g fr fc way v' (n + 1) N (fun k => if k = n then x else f k) ib d := by
  obtain ⟨i0, hi, hz0, hz1, hz2⟩ := info_parts info_item
  have hlim := h.lim
  obtain ⟨v', w2, hr, hown2, hgrow, _, hloc⟩ := run_append_own_at (P := Tryz.prog) (W.drew.alloc (.cells #[iptr (ib x)] 134)) B 131 131 134 i0 (.pointer none) 1 8 Tryz.underlying131 hi hz0 hz1 hz2 rfl (by decide) v n (ptrs (fun k => ib (f k)) n) (h.que.row.drew.alloc _) ⟨W.heap.size, 0, none⟩ 1 1 [iptr (ib x)] rfl (cell_one_new _ _ _) (by simp [Value.oneCell']) (by unfold maxLen; omega) (by omega) (by simp; omega)
  have b1 : Below W.heap.size W (W.drew.alloc (.cells #[iptr (ib x)] 134)) := (Below.refl W.heap.size W).drew.alloc (by simp) _
  have s1 := h.below b1
  have g2 : Blk w2 g #[fval fr, fval fc, .int .i64 way, v] 133 := s1.que.blk.grown hgrow (s1.que.apart s1.que.blk (by decide))
  obtain ⟨⟨_, _, _, c3⟩, _⟩ := h.que.blk.four
  obtain ⟨⟨_, _, _, d3⟩, e3⟩ := g2.four
  rw [ptrs_push] at hown2
  have hgl := h.que.blk.lt
  have hne : v'.ownBlock ≠ some g := by
    rcases hloc with e | e
    · rw [e]; exact h.que.ne
    · rw [e]; intro k; simp at k; omega
  have hrow : ∀ k, v.ownBlock = some k → B ≤ k := h.row
  have it2 : ∀ a, a < N → Itm w2 ib d a := fun a ha => (s1.its a ha).grown hgrow (s1.que.apart (s1.its a ha) (by decide))
  have b2 : Below B w0 w2 := s1.bel.grown hgrow s1.lim hrow
  have l2 : B ≤ w2.heap.size := Nat.le_trans s1.lim hgrow.size
  have hta := fun w => ta_item (iptr (ib x)) w
  obtain ⟨q', cap', rfl⟩ : ∃ q' cap', v' = .slice (some ⟨q', 0, none⟩) (n + 1) cap' := by
    rcases hown2.2 with ⟨_, h0⟩ | ⟨q', cap', cur, e, _⟩
    · omega
    · exact ⟨q', cap', e⟩
  have HKP := Lib.hid (show ∀ b cs t, t ≠ 133 → t ≠ 134 → t ≠ 136 → Blk wz b cs t → Blk w2 b cs t from fun b cs t h1 h2 h3 k => (s1.kept b cs t h1 h2 h3 k).grown hgrow (s1.que.apart (s1.kept b cs t h1 h2 h3 k) h2))
  have HR := Lib.hid hr
  have HO := Lib.hid hown2
  have HG := Lib.hid g2
  have HI := Lib.hid it2
  have HB := Lib.hid b2
  have HOLD := Lib.hid h.old
  clear h s1 b1 hr hown2 hgrow hloc g2 it2 b2 hi hz0 hz1 hz2 hrow
  go_enter Tryz.func368, Tryz.ntmps368
  go_wp2_with fail
  go_region_law (refine step_append_val rfl (.tmp 8) (.tmp 11) 131 131 rfl v (by simp [Act.eval]) (.slice (some ⟨W.heap.size, 0, none⟩) 1 1) (by simp [Act.eval]) _ w2 HR.out ?_)
  all_goals
    go_end0
    exact ⟨⟨_, rfl⟩, _, Stt.put HG.out HO.out hne HI.out HB.out l2 HOLD.out HKP.out⟩
set_option maxRecDepth 100000 in
set_option maxHeartbeats 4000000 in
theorem sPop_any {W w0 wz : World} {B g m N : Nat} {fr fc : FuncId} {way : Int} {v : Value} {f ib : Nat → Nat} {d : Nat → Dat} (h : Stt W w0 wz B g fr fc way v (m + 1) N f ib d) (hn : m ≤ 1000000) :
    Calls Tryz.prog 367 #[iptr g] W fun e w' => e = .returned (iif (ib (f m))) ∧ ∃ v', Stt w' w0 wz B g fr fc way v' m N f ib d := by
  obtain ⟨q, cap, rfl, hqg, hBq, hql, hnc, hc, hcell, -⟩ := h.que.full (by omega)
  have cm := hcell m (by omega)
  obtain ⟨⟨_, _, _, c3⟩, e3⟩ := h.que.blk.four
  unfold maxLen at hc
  have hr2 : W.ownsRow B 134 1 (.slice (some ⟨q, 0, none⟩) m cap) m (ptrs (fun k => ib (f k)) m) := by
    rcases h.que.row.2 with ⟨k, _⟩ | ⟨q', cap', cur, k, hb, hg, h1, h2, h3, h4⟩
    · cases k
    · cases k
      refine ⟨by rw [ptrs_len, Nat.mul_one], Or.inr ⟨q, cap, cur, rfl, hb, hg, by omega, h2, h3, ?_⟩⟩
      rw [← ptrs_take (fun k => ib (f k)) (n := m + 1) (m := m) (by omega), ← h4, List.take_take]
      congr 1
      omega
  obtain ⟨x, hx⟩ : ∃ x, ib (f m) = x := ⟨_, rfl⟩
  rw [hx] at cm
  have HX := Lib.hid hx
  have HP := Lib.hid (Stt.put h.que.blk hr2 (fun e => hqg (by injection e)) h.its h.bel h.lim h.old h.kept)
  have hl1 : (m : Int) + 1 - 1 = (m : Int) := by omega
  clear h hcell hr2 hx
  go_enter Tryz.func367, Tryz.ntmps367
  go_wp2_with fail
  go_ret
  exact ⟨by rw [HX.out]; rfl, _, HP.out⟩
/-- A heap in a queue, whatever its slice. -/
def HeapAt (w0 wz : World) (B g : Nat) (fr fc : FuncId) (way : Int) (n N : Nat) (ib : Nat → Nat) (d : Nat → Dat) (lt : Nat → Nat → Bool) (S : Nat → Prop) (W : World) : Prop :=
  ∃ v f, Stt W w0 wz B g fr fc way v n N f ib d ∧ Heap lt f n ∧ Hold f n S
set_option maxRecDepth 100000 in
theorem hPush_any {W w0 wz : World} {B g n N x : Nat} {fr fc : FuncId} {way : Int} {ib : Nat → Nat} {d : Nat → Dat} {cv : Nat → Nat → Int} {S : Nat → Prop} (o : Ord (ltV cv way)) (eg : Enters fc) (hC : Compares w0 B fc N ib d cv) (hS : ∀ a, S a → a < N) (hn : n < 1000000)
    (h : HeapAt w0 wz B g fr fc way n N ib d (ltV cv way) S W) (hx : x < N) (hnx : ¬ S x) :
    Calls Tryz.prog 96 #[hif g, iif (ib x)] W fun e w' => (∃ r, e = .returned r) ∧ HeapAt w0 wz B g fr fc way (n + 1) N ib d (ltV cv way) (fun a => S a ∨ a = x) w' := by
  obtain ⟨v, f, hs, hp, hh⟩ := h
  have hm := fun w => m_push g w
  have hl := fun w => m_len g w
  have CP := Lib.hid (sPush_any (x := x) hs (by omega))
  have HP := Lib.hid (UpH.start (f' := fun k => if k = n then x else f k) hp (fun k hk => if_neg (by omega)))
  have HH := Lib.hid (Hold.push (f' := fun k => if k = n then x else f k) hh (fun k hk => if_neg (by omega)) (if_pos rfl) hnx)
  have HO := Lib.hid o
  have HC := Lib.hid hC
  have HEG := Lib.hid eg
  have HS := Lib.hid (show ∀ a, (S a ∨ a = x) → a < N from fun a k => k.elim (hS a) (fun e => e ▸ hx))
  clear hs hp hh o hC eg hS hnx
  go_enter Tryz.func96, Tryz.ntmps96
  go_wp2_with fail
  refine CP.out.mono ?_
  rintro e W2 ⟨⟨r, rfl⟩, v', hs2⟩
  have HS2 := Lib.hid hs2
  have CL := Lib.hid (qLen_any hs2.que)
  have hl1 : ((n + 1 : Nat) : Int) - 1 = (n : Int) := by omega
  obtain ⟨n1, hn1⟩ : ∃ n1, n + 1 = n1 := ⟨_, rfl⟩
  rw [hn1] at CL hl1
  have hb1 : 1 ≤ n1 ∧ n1 ≤ 1000000 := by omega
  have HN := Lib.hid hn1
  clear hs2 CP hn1
  go_wp2_with fail
  refine CL.out.mono ?_
  rintro e w' ⟨rfl, rfl⟩
  have hs2 := HS2.out
  have hu := HP.out
  have hh := HH.out
  rw [HN.out] at hs2 hu hh
  have CU := Lib.hid (up_any HO.out HEG.out HC.out HS.out (by omega) hs2 hu hh (by omega))
  clear hs2 hu hh
  go_wp2_with fail
  refine CU.out.mono ?_
  rintro e W3 ⟨⟨r, rfl⟩, f3, h3⟩
  have H3 := Lib.hid h3
  clear h3
  go_wp2_with fail
  go_end0
  rw [HN.out]
  exact ⟨⟨_, rfl⟩, v', f3, H3.out⟩
set_option maxRecDepth 100000 in
theorem hPop_any {W w0 wz : World} {B g m N : Nat} {fr fc : FuncId} {way : Int} {ib : Nat → Nat} {d : Nat → Dat} {cv : Nat → Nat → Int} {S : Nat → Prop} {v : Value} {f : Nat → Nat} (o : Ord (ltV cv way)) (eg : Enters fc) (hC : Compares w0 B fc N ib d cv) (hS : ∀ a, S a → a < N) (hn : m < 1000000)
    (hs : Stt W w0 wz B g fr fc way v (m + 1) N f ib d) (hp : Heap (ltV cv way) f (m + 1)) (hh : Hold f (m + 1) S) :
    Calls Tryz.prog 98 #[hif g] W fun e w' => e = .returned (iif (ib (f 0))) ∧ HeapAt w0 wz B g fr fc way m N ib d (ltV cv way) (fun a => S a ∧ a ≠ f 0) w' := by
  have hm := fun w => m_pop g w
  have hl := fun w => m_len g w
  have hsw := fun w => m_swap g w
  have CL := Lib.hid (qLen_any hs.que)
  have CS := Lib.hid (qSwap_any hs.que 0 m (by omega) (by omega))
  have HST := Lib.hid hs
  have HD := Lib.hid (DownH.start hp)
  have hh2 := (hh.swp (i := 0) (j := m) (by omega) (by omega)).pop
  rw [swp_j] at hh2
  have HH := Lib.hid hh2
  have HO := Lib.hid o
  have HC := Lib.hid hC
  have HEG := Lib.hid eg
  have HS := Lib.hid (show ∀ a, (S a ∧ a ≠ f 0) → a < N from fun a k => hS a k.1)
  have hl1 : ((m + 1 : Nat) : Int) - 1 = (m : Int) := by omega
  obtain ⟨n1, hn1⟩ : ∃ n1, m + 1 = n1 := ⟨_, rfl⟩
  rw [hn1] at CL hl1
  have hb1 : 1 ≤ n1 ∧ n1 ≤ 1000000 := by omega
  have HN := Lib.hid hn1
  have h00 : ((0 : Nat) : Int) = 0 := rfl
  rw [h00] at CS
  clear hs hp hh hh2 o hC eg hS hn1 h00
  go_enter Tryz.func98, Tryz.ntmps98
  go_wp2_with fail
  refine CL.out.mono ?_
  rintro e w' ⟨rfl, rfl⟩
  go_wp2_with fail
  refine CS.out.mono ?_
  rintro e W2 ⟨rfl, hq, hg⟩
  have hs2 := HST.out.swap hq hg
  have CD := Lib.hid (down_any HO.out HEG.out HC.out HS.out (by omega) (by omega) hs2 HD.out HH.out (swp_j f 0 m))
  clear hs2 hq hg
  go_wp2_with fail
  refine CD.out.mono ?_
  rintro e W3 ⟨⟨r, rfl⟩, f3, hs3, hp3, hh3, hx3⟩
  have CP := Lib.hid (sPop_any hs3 (by omega))
  rw [hx3] at CP
  have H3 := Lib.hid (And.intro hp3 hh3)
  clear hs3 hp3 hh3 hx3
  go_wp2_with fail
  refine CP.out.mono ?_
  rintro e W4 ⟨rfl, v4, hs4⟩
  have HS4 := Lib.hid hs4
  clear hs4
  go_wp2_with fail
  go_ret
  exact ⟨rfl, v4, f3, HS4.out, H3.out⟩
end Go.Proofs.YtbbbdcohkfijoaaGreatDoor

namespace Go.Proofs.YtbbbdcohkfijoaaGreatDoor
open Go.RowKit Go.Lib Go.Maps

abbrev ordV (fr fc : FuncId) (way : Int) : Value := .agg #[fval fr, fval fc, .int .i64 way]
def asO (v : Value) : Option (DataW Value × List MemPlace) := some (.held v, [])
def klO (s : ByteArray) : Lit := .string s.data.toList
theorem lawO : Keyed Tryz.prog 9 := string_keyed Tryz.underlying9
theorem keyO {s : ByteArray} (h : s.size ≤ maxLen) : keyOf Tryz.prog 9 (.string s) = some (klO s) := Go.WideMaps.keyOf_string_mk Tryz.underlying9 h
theorem zeroO (w : World) : (zeroValue 127).run Tryz.prog w = .ok (.agg #[.nilFunc, .nilFunc, .int .i64 0]) w := by kernel_rfl
def n0 : ByteArray := ⟨#[64, 117, 110, 115, 111, 114, 116, 101, 100]⟩
def n1 : ByteArray := ⟨#[64, 105, 110, 100, 95, 115, 116, 114, 95, 97, 115, 99]⟩
def n2 : ByteArray := ⟨#[64, 105, 110, 100, 95, 115, 116, 114, 95, 100, 101, 115, 99]⟩
def n3 : ByteArray := ⟨#[64, 105, 110, 100, 95, 110, 117, 109, 95, 97, 115, 99]⟩
def n4 : ByteArray := ⟨#[64, 105, 110, 100, 95, 110, 117, 109, 95, 100, 101, 115, 99]⟩
def n5 : ByteArray := ⟨#[64, 118, 97, 108, 95, 115, 116, 114, 95, 97, 115, 99]⟩
def n6 : ByteArray := ⟨#[64, 118, 97, 108, 95, 115, 116, 114, 95, 100, 101, 115, 99]⟩
def n7 : ByteArray := ⟨#[64, 118, 97, 108, 95, 110, 117, 109, 95, 97, 115, 99]⟩
def n8 : ByteArray := ⟨#[64, 118, 97, 108, 95, 110, 117, 109, 95, 100, 101, 115, 99]⟩
def n9 : ByteArray := ⟨#[64, 118, 97, 108, 95, 116, 121, 112, 101, 95, 97, 115, 99]⟩
def n10 : ByteArray := ⟨#[64, 118, 97, 108, 95, 116, 121, 112, 101, 95, 100, 101, 115, 99]⟩
abbrev fLeave : FuncId := 143
abbrev fAlike : FuncId := 144
abbrev fByKey : FuncId := 145
abbrev fCountKey : FuncId := 146
abbrev fByKeyN : FuncId := 147
abbrev fWrite : FuncId := 148
abbrev fByVal : FuncId := 149
abbrev fCount : FuncId := 150
/-- The orders, as their map is read. -/
def ordsD : DataW Value :=
  ((((((((((((DataW.map [] : DataW Value).put (klO n0) (.held (ordV fLeave fAlike 1))).put (klO n1) (.held (ordV fLeave fByKey 1))).put (klO n2) (.held (ordV fLeave fByKey (-1)))).put (klO n3) (.held (ordV fCountKey fByKeyN 1))).put (klO n4) (.held (ordV fCountKey fByKeyN (-1)))).put (klO n5) (.held (ordV fWrite fByVal 1))).put (klO n6) (.held (ordV fWrite fByVal (-1)))).put (klO n7) (.held (ordV fCount fByVal 1))).put (klO n8) (.held (ordV fCount fByVal (-1)))).put (klO n9) (.held (ordV fLeave fByVal 1))).put (klO n10) (.held (ordV fLeave fByVal (-1))))
theorem putO_run {W : World} {m n : Nat} {D : DataW Value} (h : W.ownsMap Tryz.prog 9 asO m n D) (hn : n < maxLen) {s : ByteArray} (hs : s.size ≤ maxLen) (v : Value) :
    ∃ W', (Instr.mapUpdate 129 (.map (some m)) (.string s) v).run Tryz.prog W = .ok () W' ∧ W'.ownsMap Tryz.prog 9 asO m (n + 1) (D.put (klO s) (.held v)) ∧ W.mapTurned W' m := by
  have := h.store lawO Tryz.underlying129 hn (val := v) (keyO hs) (d := .held v) (ps := []) rfl
  exact this
set_option maxRecDepth 100000 in
set_option maxHeartbeats 4000000 in
theorem orders_any (w : World) : Calls Tryz.prog 95 #[] w fun e w' => e = .returned (.map (some w.heap.size)) ∧ w'.ownsMap Tryz.prog 9 asO w.heap.size 11 ordsD ∧ Below w.heap.size w w' := by
  have hmm := @run_makeMap Tryz.prog
  have h0 := World.ownsMap_made w Tryz.prog 9 asO
  have b0 := (Below.refl w.heap.size w).alloc (Nat.le_refl _) (.map #[] 0)
  obtain ⟨W1, u1, h1, t1⟩ := putO_run h0 (by decide) (s := ⟨#[64, 117, 110, 115, 111, 114, 116, 101, 100]⟩) (by decide) (ordV fLeave fAlike 1)
  have b1 : Below w.heap.size w W1 := b0.grown t1.grown (by simp) (fun k e => by cases e; exact Nat.le_refl _)
  clear t1 h0 b0
  obtain ⟨W2, u2, h2, t2⟩ := putO_run h1 (by decide) (s := ⟨#[64, 105, 110, 100, 95, 115, 116, 114, 95, 97, 115, 99]⟩) (by decide) (ordV fLeave fByKey 1)
  have b2 : Below w.heap.size w W2 := b1.grown t2.grown b1.size (fun k e => by cases e; exact Nat.le_refl _)
  clear t2 h1 b1
  obtain ⟨W3, u3, h3, t3⟩ := putO_run h2 (by decide) (s := ⟨#[64, 105, 110, 100, 95, 115, 116, 114, 95, 100, 101, 115, 99]⟩) (by decide) (ordV fLeave fByKey (-1))
  have b3 : Below w.heap.size w W3 := b2.grown t3.grown b2.size (fun k e => by cases e; exact Nat.le_refl _)
  clear t3 h2 b2
  obtain ⟨W4, u4, h4, t4⟩ := putO_run h3 (by decide) (s := ⟨#[64, 105, 110, 100, 95, 110, 117, 109, 95, 97, 115, 99]⟩) (by decide) (ordV fCountKey fByKeyN 1)
  have b4 : Below w.heap.size w W4 := b3.grown t4.grown b3.size (fun k e => by cases e; exact Nat.le_refl _)
  clear t4 h3 b3
  obtain ⟨W5, u5, h5, t5⟩ := putO_run h4 (by decide) (s := ⟨#[64, 105, 110, 100, 95, 110, 117, 109, 95, 100, 101, 115, 99]⟩) (by decide) (ordV fCountKey fByKeyN (-1))
  have b5 : Below w.heap.size w W5 := b4.grown t5.grown b4.size (fun k e => by cases e; exact Nat.le_refl _)
  clear t5 h4 b4
  obtain ⟨W6, u6, h6, t6⟩ := putO_run h5 (by decide) (s := ⟨#[64, 118, 97, 108, 95, 115, 116, 114, 95, 97, 115, 99]⟩) (by decide) (ordV fWrite fByVal 1)
  have b6 : Below w.heap.size w W6 := b5.grown t6.grown b5.size (fun k e => by cases e; exact Nat.le_refl _)
  clear t6 h5 b5
  obtain ⟨W7, u7, h7, t7⟩ := putO_run h6 (by decide) (s := ⟨#[64, 118, 97, 108, 95, 115, 116, 114, 95, 100, 101, 115, 99]⟩) (by decide) (ordV fWrite fByVal (-1))
  have b7 : Below w.heap.size w W7 := b6.grown t7.grown b6.size (fun k e => by cases e; exact Nat.le_refl _)
  clear t7 h6 b6
  obtain ⟨W8, u8, h8, t8⟩ := putO_run h7 (by decide) (s := ⟨#[64, 118, 97, 108, 95, 110, 117, 109, 95, 97, 115, 99]⟩) (by decide) (ordV fCount fByVal 1)
  have b8 : Below w.heap.size w W8 := b7.grown t8.grown b7.size (fun k e => by cases e; exact Nat.le_refl _)
  clear t8 h7 b7
  obtain ⟨W9, u9, h9, t9⟩ := putO_run h8 (by decide) (s := ⟨#[64, 118, 97, 108, 95, 110, 117, 109, 95, 100, 101, 115, 99]⟩) (by decide) (ordV fCount fByVal (-1))
  have b9 : Below w.heap.size w W9 := b8.grown t9.grown b8.size (fun k e => by cases e; exact Nat.le_refl _)
  clear t9 h8 b8
  obtain ⟨W10, u10, h10, t10⟩ := putO_run h9 (by decide) (s := ⟨#[64, 118, 97, 108, 95, 116, 121, 112, 101, 95, 97, 115, 99]⟩) (by decide) (ordV fLeave fByVal 1)
  have b10 : Below w.heap.size w W10 := b9.grown t10.grown b9.size (fun k e => by cases e; exact Nat.le_refl _)
  clear t10 h9 b9
  obtain ⟨W11, u11, h11, t11⟩ := putO_run h10 (by decide) (s := ⟨#[64, 118, 97, 108, 95, 116, 121, 112, 101, 95, 100, 101, 115, 99]⟩) (by decide) (ordV fLeave fByVal (-1))
  have b11 : Below w.heap.size w W11 := b10.grown t11.grown b10.size (fun k e => by cases e; exact Nat.le_refl _)
  clear t11 h10 b10
  have H := Lib.hid h11
  have HB := Lib.hid b11
  clear h11 b11
  go_enter Tryz.func95, Tryz.ntmps95
  go_wp2
  go_ret
  exact ⟨rfl, H.out, HB.out⟩
theorem klO_inj {s t : ByteArray} (h : klO s = klO t) : s = t := by
  have h2 : s.data.toList = t.data.toList := by injection h
  exact ByteArray.ext (Array.toList_inj.1 h2)
/-- The names, and what they stand for. -/
def ordT : List (ByteArray × FuncId × FuncId × Int) := [(n0, fLeave, fAlike, 1), (n1, fLeave, fByKey, 1), (n2, fLeave, fByKey, (-1)), (n3, fCountKey, fByKeyN, 1), (n4, fCountKey, fByKeyN, (-1)), (n5, fWrite, fByVal, 1), (n6, fWrite, fByVal, (-1)), (n7, fCount, fByVal, 1), (n8, fCount, fByVal, (-1)), (n9, fLeave, fByVal, 1), (n10, fLeave, fByVal, (-1))]
theorem ords_yes {how : ByteArray} {fr fc : FuncId} {way : Int} (h : (how, fr, fc, way) ∈ ordT) : Maps.has ordsD (klO how) = true ∧ ∀ z, ordsD.atKey (klO how) z = .held (ordV fr fc way) := by
  unfold ordT at h
  simp only [List.mem_cons, Prod.mk.injEq, List.not_mem_nil, or_false] at h
  rcases h with ⟨rfl, rfl, rfl, rfl⟩ | ⟨rfl, rfl, rfl, rfl⟩ | ⟨rfl, rfl, rfl, rfl⟩ | ⟨rfl, rfl, rfl, rfl⟩ | ⟨rfl, rfl, rfl, rfl⟩ | ⟨rfl, rfl, rfl, rfl⟩ | ⟨rfl, rfl, rfl, rfl⟩ | ⟨rfl, rfl, rfl, rfl⟩ | ⟨rfl, rfl, rfl, rfl⟩ | ⟨rfl, rfl, rfl, rfl⟩ | ⟨rfl, rfl, rfl, rfl⟩
  all_goals exact ⟨rfl, fun _ => rfl⟩
theorem ords_no {how : ByteArray} (h : ∀ fr fc way, (how, fr, fc, way) ∉ ordT) : Maps.has ordsD (klO how) = false ∧ ∀ z, ordsD.atKey (klO how) z = z := by
  have ne : ∀ x ∈ ordT, how ≠ x.1 := fun x hx e => h x.2.1 x.2.2.1 x.2.2.2 (by rw [e]; exact hx)
  have hk : ∀ x ∈ ordT, klO how ≠ klO x.1 := fun x hx e => ne x hx (klO_inj e)
  have hh : Maps.has ordsD (klO how) = false := by
    unfold ordsD
    rw [Maps.has_put_other (hk (n10, fLeave, fByVal, (-1)) (by unfold ordT; simp))]
    rw [Maps.has_put_other (hk (n9, fLeave, fByVal, 1) (by unfold ordT; simp))]
    rw [Maps.has_put_other (hk (n8, fCount, fByVal, (-1)) (by unfold ordT; simp))]
    rw [Maps.has_put_other (hk (n7, fCount, fByVal, 1) (by unfold ordT; simp))]
    rw [Maps.has_put_other (hk (n6, fWrite, fByVal, (-1)) (by unfold ordT; simp))]
    rw [Maps.has_put_other (hk (n5, fWrite, fByVal, 1) (by unfold ordT; simp))]
    rw [Maps.has_put_other (hk (n4, fCountKey, fByKeyN, (-1)) (by unfold ordT; simp))]
    rw [Maps.has_put_other (hk (n3, fCountKey, fByKeyN, 1) (by unfold ordT; simp))]
    rw [Maps.has_put_other (hk (n2, fLeave, fByKey, (-1)) (by unfold ordT; simp))]
    rw [Maps.has_put_other (hk (n1, fLeave, fByKey, 1) (by unfold ordT; simp))]
    rw [Maps.has_put_other (hk (n0, fLeave, fAlike, 1) (by unfold ordT; simp))]
    rfl
  exact ⟨hh, fun z => Maps.atKey_of_not_has hh z⟩
theorem ords_look {W : World} {m : Nat} (h : W.ownsMap Tryz.prog 9 asO m 11 ordsD) {how : ByteArray} (hs : how.size ≤ maxLen) :
    (∀ fr fc way, (how, fr, fc, way) ∈ ordT → (Instr.lookup 129 (.map (some m)) (.string how) true).run Tryz.prog W = .ok (.tuple #[ordV fr fc way, .bool true]) W) ∧
    ((∀ fr fc way, (how, fr, fc, way) ∉ ordT) → (Instr.lookup 129 (.map (some m)) (.string how) true).run Tryz.prog W = .ok (.tuple #[.agg #[.nilFunc, .nilFunc, .int .i64 0], .bool false]) W) := by
  obtain ⟨u, ps, hr, hu⟩ := h.look_ok lawO Tryz.underlying129 (zeroO W) (zd := .held (.agg #[.nilFunc, .nilFunc, .int .i64 0])) (zp := []) rfl (keyO hs)
  unfold asO at hu
  simp only [Option.some.injEq, Prod.mk.injEq] at hu
  constructor
  · intro fr fc way hm
    obtain ⟨h1, h2⟩ := ords_yes hm
    rw [h2] at hu
    have e : u = ordV fr fc way := by have := hu.1; injection this
    rw [hr, h1, e]
  · intro hm
    obtain ⟨h1, h2⟩ := ords_no hm
    rw [h2] at hu
    have e : u = .agg #[.nilFunc, .nilFunc, .int .i64 0] := by have := hu.1; injection this
    rw [hr, h1, e]
end Go.Proofs.YtbbbdcohkfijoaaGreatDoor

namespace Go.Proofs.YtbbbdcohkfijoaaGreatDoor

/-- The number that digits write. -/
def vl (B : Nat) : List Nat → Nat
  | [] => 0
  | x :: l => x + B * vl B l
def Lim (B : Nat) (l : List Nat) : Prop := ∀ x ∈ l, x < B
/-- No nought at the top. -/
def Top (l : List Nat) : Prop := l.getLast? ≠ some 0

theorem vl_nil (B : Nat) : vl B [] = 0 := rfl
theorem vl_cons (B x : Nat) (l : List Nat) : vl B (x :: l) = x + B * vl B l := rfl
theorem vl_append (B : Nat) (l m : List Nat) : vl B (l ++ m) = vl B l + B ^ l.length * vl B m := by
  induction l with
  | nil => simp [vl]
  | cons x l ih =>
    rw [List.cons_append, vl_cons, ih, vl_cons, List.length_cons, Nat.pow_succ, Nat.mul_add, Nat.add_assoc, Nat.mul_comm (B ^ l.length) B, Nat.mul_assoc]
theorem vl_one (B x : Nat) : vl B [x] = x := by simp [vl]
theorem vl_snoc (B : Nat) (l : List Nat) (x : Nat) : vl B (l ++ [x]) = vl B l + B ^ l.length * x := by rw [vl_append, vl_one]
theorem vl_zeros (B n : Nat) : vl B (List.replicate n 0) = 0 := by
  induction n with
  | zero => rfl
  | succ n ih => rw [List.replicate_succ, vl_cons, ih]; rfl
theorem lim_nil (B : Nat) : Lim B [] := fun _ h => by cases h
theorem lim_append {B : Nat} {l m : List Nat} : Lim B (l ++ m) ↔ Lim B l ∧ Lim B m := by
  unfold Lim
  constructor
  · exact fun h => ⟨fun x hx => h x (List.mem_append_left _ hx), fun x hx => h x (List.mem_append_right _ hx)⟩
  · rintro ⟨h1, h2⟩ x hx
    rcases List.mem_append.1 hx with h | h
    · exact h1 x h
    · exact h2 x h
theorem lim_cons {B x : Nat} {l : List Nat} : Lim B (x :: l) ↔ x < B ∧ Lim B l := by
  unfold Lim
  simp
theorem lim_one {B x : Nat} : Lim B [x] ↔ x < B := by unfold Lim; simp
theorem lim_take {B : Nat} {l : List Nat} (h : Lim B l) (k : Nat) : Lim B (l.take k) := fun x hx => h x (List.mem_of_mem_take hx)
theorem lim_drop {B : Nat} {l : List Nat} (h : Lim B l) (k : Nat) : Lim B (l.drop k) := fun x hx => h x (List.mem_of_mem_drop hx)
theorem lim_get {B : Nat} {l : List Nat} (h : Lim B l) (k : Nat) (hk : k < l.length) : l[k] < B := h _ (List.getElem_mem hk)
theorem lim_zeros {B : Nat} (hB : 0 < B) (n : Nat) : Lim B (List.replicate n 0) := fun x hx => by rw [(List.mem_replicate.1 hx).2]; exact hB
theorem vl_lt {B : Nat} {l : List Nat} (h : Lim B l) : vl B l < B ^ l.length := by
  induction l with
  | nil => simp [vl]
  | cons x l ih =>
    obtain ⟨h1, h2⟩ := lim_cons.1 h
    have := ih h2
    rw [vl_cons, List.length_cons, Nat.pow_succ, Nat.mul_comm (B ^ l.length) B]
    have h3 : B * (vl B l + 1) ≤ B * B ^ l.length := Nat.mul_le_mul_left B this
    rw [Nat.mul_add] at h3
    omega
theorem vl_take_drop (B : Nat) (l : List Nat) (k : Nat) (hk : k ≤ l.length) : vl B l = vl B (l.take k) + B ^ k * vl B (l.drop k) := by
  have := vl_append B (l.take k) (l.drop k)
  rw [List.take_append_drop, List.length_take, Nat.min_eq_left hk] at this
  exact this
theorem take_succ_get {α : Type} (l : List α) (k : Nat) (hk : k < l.length) : l.take (k + 1) = l.take k ++ [l[k]] := by
  rw [List.take_succ_eq_append_getElem hk]
theorem drop_get {α : Type} (l : List α) (k : Nat) (hk : k < l.length) : l.drop k = l[k] :: l.drop (k + 1) := (List.drop_eq_getElem_cons hk)
theorem vl_take_succ (B : Nat) (l : List Nat) (k : Nat) (hk : k < l.length) : vl B (l.take (k + 1)) = vl B (l.take k) + B ^ k * l[k] := by
  rw [take_succ_get l k hk, vl_snoc, List.length_take, Nat.min_eq_left (by omega)]

theorem top_nil : Top [] := by simp [Top]
theorem top_snoc {l : List Nat} {x : Nat} : Top (l ++ [x]) ↔ x ≠ 0 := by simp [Top]
theorem snoc_of_ne {l : List Nat} (h : l ≠ []) : ∃ m x, l = m ++ [x] := ⟨l.dropLast, l.getLast h, (List.dropLast_concat_getLast h).symm⟩
theorem vl_top {B : Nat} {l : List Nat} (ht : Top l) (h : l ≠ []) : B ^ (l.length - 1) ≤ vl B l := by
  obtain ⟨m, x, rfl⟩ := snoc_of_ne h
  have hx := top_snoc.1 ht
  rw [vl_snoc, List.length_append, List.length_singleton, Nat.add_sub_cancel]
  have : B ^ m.length * 1 ≤ B ^ m.length * x := Nat.mul_le_mul_left _ (by omega)
  omega
/-- Digits that write a number as it is written. -/
def Norm (B : Nat) (l : List Nat) : Prop := Lim B l ∧ Top l
theorem norm_len_lt {B : Nat} (hB : 0 < B) {l m : List Nat} (hl : Lim B l) (hm : Top m) (h : l.length < m.length) : vl B l < vl B m := by
  have h1 := vl_lt hl
  have h2 := vl_top (B := B) hm (by intro e; rw [e] at h; simp at h)
  have h3 : B ^ l.length ≤ B ^ (m.length - 1) := Nat.pow_le_pow_right hB (by omega)
  omega
theorem lim_unique {B : Nat} : ∀ {l m : List Nat}, Lim B l → Lim B m → l.length = m.length → vl B l = vl B m → l = m
  | [], [], _, _, _, _ => rfl
  | [], _ :: _, _, _, h, _ => by simp at h
  | _ :: _, [], _, _, h, _ => by simp at h
  | x :: l, y :: m, hl, hm, h, he => by
    obtain ⟨a1, a2⟩ := lim_cons.1 hl
    obtain ⟨b1, b2⟩ := lim_cons.1 hm
    rw [vl_cons, vl_cons] at he
    have e1 : x = y := by
      have := congrArg (· % B) he
      simpa [Nat.add_mul_mod_self_left, Nat.mod_eq_of_lt a1, Nat.mod_eq_of_lt b1] using this
    subst e1
    have e2 : vl B l = vl B m := Nat.eq_of_mul_eq_mul_left (show 0 < B by omega) (by omega)
    rw [lim_unique a2 b2 (by simpa using h) e2]
theorem norm_unique {B : Nat} (hB : 0 < B) {l m : List Nat} (hl : Norm B l) (hm : Norm B m) (he : vl B l = vl B m) : l = m := by
  rcases Nat.lt_trichotomy l.length m.length with h | h | h
  · have := norm_len_lt hB hl.1 hm.2 h; omega
  · exact lim_unique hl.1 hm.1 h he
  · have := norm_len_lt hB hm.1 hl.2 h; omega
/-- Without noughts at the top. -/
def trimL : List Nat → List Nat
  | [] => []
  | x :: l => if trimL l = [] then (if x = 0 then [] else [x]) else x :: trimL l
theorem trimL_top : ∀ l, Top (trimL l)
  | [] => top_nil
  | x :: l => by
    unfold trimL
    split
    · split
      · exact top_nil
      · rename_i h; exact top_snoc (l := []).2 h
    · rename_i h
      have := trimL_top l
      obtain ⟨m, y, e⟩ := snoc_of_ne h
      rw [e] at this ⊢
      exact (top_snoc (l := x :: m)).2 (top_snoc.1 this)
theorem trimL_vl (B : Nat) : ∀ l, vl B (trimL l) = vl B l
  | [] => rfl
  | x :: l => by
    have ih := trimL_vl B l
    unfold trimL
    split
    · rename_i h
      rw [h, vl_nil] at ih
      rw [vl_cons, ← ih]
      split
      · rename_i h2; rw [h2]; rfl
      · simp [vl]
    · rw [vl_cons, vl_cons, ih]
theorem trimL_lim {B : Nat} : ∀ {l : List Nat}, Lim B l → Lim B (trimL l)
  | [], _ => lim_nil B
  | x :: l, h => by
    obtain ⟨h1, h2⟩ := lim_cons.1 h
    unfold trimL
    split
    · split
      · exact lim_nil B
      · exact lim_one.2 h1
    · exact lim_cons.2 ⟨h1, trimL_lim h2⟩
/-- The digits of a number: n of them, and noughts at the top taken away. -/
def digs (B : Nat) : Nat → Nat → List Nat
  | 0, _ => []
  | k + 1, n => n % B :: digs B k (n / B)
theorem digs_lim {B : Nat} (hB : 0 < B) : ∀ k n, Lim B (digs B k n)
  | 0, _ => lim_nil B
  | k + 1, _ => lim_cons.2 ⟨Nat.mod_lt _ hB, digs_lim hB k _⟩
theorem digs_vl {B : Nat} : ∀ k n, n < B ^ k → vl B (digs B k n) = n
  | 0, _, h => by simp at h; rw [h]; rfl
  | k + 1, n, h => by
    rw [digs, vl_cons, digs_vl k _ (Nat.div_lt_of_lt_mul (by rw [Nat.pow_succ, Nat.mul_comm] at h; exact h))]
    exact Nat.mod_add_div n B
theorem lt_pow_self' {B : Nat} (hB : 2 ≤ B) (n : Nat) : n < B ^ n := by
  exact Nat.lt_pow_self (by omega)
def dig (B n : Nat) : List Nat := trimL (digs B n n)
theorem dig_vl {B : Nat} (hB : 2 ≤ B) (n : Nat) : vl B (dig B n) = n := by rw [dig, trimL_vl, digs_vl _ _ (lt_pow_self' hB n)]
theorem dig_norm {B : Nat} (hB : 2 ≤ B) (n : Nat) : Norm B (dig B n) := ⟨trimL_lim (digs_lim (by omega) _ _), trimL_top _⟩
theorem dig_eq {B : Nat} (hB : 2 ≤ B) {l : List Nat} {n : Nat} (h : Norm B l) (hv : vl B l = n) : dig B n = l :=
  norm_unique (by omega) (dig_norm hB n) h (by rw [dig_vl hB, hv])
theorem dig_zero (B : Nat) : dig B 0 = [] := rfl
theorem dig_nil {B n : Nat} (hB : 2 ≤ B) (h : dig B n = []) : n = 0 := by rw [← dig_vl hB n, h]; rfl
/-- How the loop that takes noughts away ends. -/
theorem trim_take {B : Nat} (hB : 2 ≤ B) {l : List Nat} {n : Nat} (hl : Lim B l) (hn : n ≤ l.length) (h0 : ∀ j (_ : n ≤ j) (hj : j < l.length), l[j] = 0) (ht : n = 0 ∨ ∃ h : n - 1 < l.length, l[n - 1] ≠ 0) : dig B (vl B l) = l.take n ∧ (dig B (vl B l)).length = n := by
  have hd : l.drop n = List.replicate (l.length - n) 0 := by
    apply List.ext_getElem
    · simp
    · intro i h1 h2
      rw [List.getElem_drop, List.getElem_replicate]
      exact h0 _ (by omega) (by simp at h1; omega)
  have hv : vl B (l.take n) = vl B l := by
    rw [vl_take_drop B l n hn, hd, vl_zeros]; simp
  have e : dig B (vl B l) = l.take n := by
    refine dig_eq hB ⟨lim_take hl n, ?_⟩ hv
    rcases ht with rfl | ⟨h, ht⟩
    · exact top_nil
    · by_cases hz : n = 0
      · subst hz; exact top_nil
      · have := take_succ_get l (n - 1) h
        rw [show n - 1 + 1 = n by omega] at this
        rw [this]
        exact top_snoc.2 ht
  refine ⟨e, ?_⟩
  rw [e, List.length_take]; omega
/-- Comparison from the top: same above, less at one place. -/
theorem vl_cmp_at {B : Nat} {l m : List Nat} {k : Nat} (hl : Lim B l) (he : l.length = m.length) (hk : k < l.length) (ha : l.drop (k + 1) = m.drop (k + 1)) (hx : l[k] < m[k]'(by omega)) : vl B l < vl B m := by
  rw [vl_take_drop B l k (by omega), vl_take_drop B m k (by omega), drop_get l k hk, drop_get m k (by omega), vl_cons, vl_cons, ha]
  have h1 := vl_lt (lim_take hl k)
  rw [List.length_take, Nat.min_eq_left (by omega)] at h1
  generalize vl B (m.drop (k + 1)) = t
  generalize l[k] = x at hx ⊢
  generalize (m[k]'(by omega)) = y at hx ⊢
  have h2 : B ^ k * (x + B * t + 1) ≤ B ^ k * (y + B * t) := Nat.mul_le_mul_left _ (by omega)
  rw [Nat.mul_add _ _ 1] at h2
  omega
/-- Which lists are numbers: as long as the number is small. -/
theorem dig_len_le {B : Nat} (hB : 2 ≤ B) (n k : Nat) : (dig B n).length ≤ k ↔ n < B ^ k := by
  constructor
  · intro h
    have h1 := vl_lt (dig_norm hB n).1
    rw [dig_vl hB] at h1
    exact Nat.lt_of_lt_of_le h1 (Nat.pow_le_pow_right (by omega) h)
  · intro h
    rcases Nat.lt_or_ge k (dig B n).length with h1 | h1
    · have h2 := vl_top (B := B) (dig_norm hB n).2 (by intro e; rw [e] at h1; simp at h1)
      rw [dig_vl hB] at h2
      have h3 : B ^ k ≤ B ^ ((dig B n).length - 1) := Nat.pow_le_pow_right (by omega) (by omega)
      omega
    · exact h1
end Go.Proofs.YtbbbdcohkfijoaaGreatDoor

namespace Go.Proofs.YtbbbdcohkfijoaaGreatDoor

theorem take_set_succ {l : List Nat} {k y : Nat} (hk : k < l.length) : (l.set k y).take (k + 1) = l.take k ++ [y] := by
  rw [take_succ_get _ k (by simpa using hk), List.getElem_set_self, List.take_set_of_le (Nat.le_refl _)]
theorem drop_set_same {l : List Nat} {k y : Nat} (hk : k < l.length) : (l.set k y).drop k = y :: l.drop (k + 1) := by
  rw [drop_get _ k (by simpa using hk), List.getElem_set_self, List.drop_set_of_lt (by omega)]
theorem drop_set_succ {l : List Nat} {k y : Nat} : (l.set k y).drop (k + 1) = l.drop (k + 1) := List.drop_set_of_lt (by omega)
theorem take_set_same {l : List Nat} {k y : Nat} : (l.set k y).take k = l.take k := List.take_set_of_le (Nat.le_refl _)
theorem lim_set {B : Nat} {l : List Nat} {k y : Nat} (h : Lim B l) (hy : y < B) : Lim B (l.set k y) := fun x hx => by
  rcases List.mem_or_eq_of_mem_set hx with h1 | h1
  · exact h x h1
  · omega
theorem vl_set (B : Nat) : ∀ (l : List Nat) (k y : Nat) (hk : k < l.length), vl B (l.set k y) + B ^ k * l[k] = vl B l + B ^ k * y
  | x :: l, 0, y, _ => by simp [vl]; omega
  | x :: l, k + 1, y, hk => by
    have ih := vl_set B l k y (by simpa using hk)
    have := congrArg (B * ·) ih
    simp only [Nat.mul_add] at this
    simp only [List.set_cons_succ, vl_cons, List.getElem_cons_succ, Nat.pow_succ, Nat.mul_comm (B ^ k) B, Nat.mul_assoc]
    omega
/-- The digit at a place, 0 behind the end. -/
theorem vl_take_get (B : Nat) (l : List Nat) (k : Nat) : vl B (l.take (k + 1)) = vl B (l.take k) + B ^ k * l.getD k 0 := by
  by_cases hk : k < l.length
  · rw [vl_take_succ B l k hk, List.getD_eq_getElem?_getD, List.getElem?_eq_getElem hk]; rfl
  · rw [List.take_of_length_le (by omega), List.take_of_length_le (by omega), List.getD_eq_getElem?_getD, List.getElem?_eq_none (by omega)]; simp
theorem vl_take_all {B : Nat} {l : List Nat} {k : Nat} (h : l.length ≤ k) : vl B (l.take k) = vl B l := by rw [List.take_of_length_le h]
theorem getD_of {l : List Nat} {k : Nat} (hk : k < l.length) : l.getD k 0 = l[k] := by rw [List.getD_eq_getElem?_getD, List.getElem?_eq_getElem hk]; rfl
theorem getD_no {l : List Nat} {k : Nat} (hk : ¬ k < l.length) : l.getD k 0 = 0 := by rw [List.getD_eq_getElem?_getD, List.getElem?_eq_none (by omega)]; rfl
theorem getD_lt {B : Nat} {l : List Nat} (h : Lim B l) (hB : 0 < B) (k : Nat) : l.getD k 0 < B := by
  by_cases hk : k < l.length
  · rw [getD_of hk]; exact lim_get h k hk
  · rw [getD_no hk]; exact hB

/-- One digit: what is put down and what is carried. -/
theorem digit_step {B P z : Nat} : P * z = P * (z % B) + P * B * (z / B) := by
  have := Nat.mod_add_div z B
  have h2 := congrArg (P * ·) this
  simp only [Nat.mul_add, ← Nat.mul_assoc] at h2
  exact h2.symm

/-- The state of a loop that goes up over xs and has put cur in its place: below k done. -/
structure Up (B : Nat) (xs cur : List Nat) (k : Nat) : Prop where
  len : cur.length = xs.length
  lim : Lim B cur
  rest : cur.drop k = xs.drop k
  le : k ≤ xs.length
theorem up_start {B : Nat} {xs : List Nat} (h : Lim B xs) : Up B xs xs 0 := ⟨rfl, h, rfl, Nat.zero_le _⟩
theorem up_get {B : Nat} {xs cur : List Nat} {k : Nat} (h : Up B xs cur k) (hk : k < xs.length) : cur[k]'(by rw [h.len]; exact hk) = xs[k] := by
  have h3 := h.rest
  rw [drop_get cur k (by rw [h.len]; exact hk), drop_get xs k hk] at h3
  exact (List.cons.inj h3).1
theorem up_step {B : Nat} {xs cur : List Nat} {k y : Nat} (h : Up B xs cur k) (hk : k < xs.length) (hy : y < B) : Up B xs (cur.set k y) (k + 1) := by
  refine ⟨by rw [List.length_set, h.len], lim_set h.lim hy, ?_, hk⟩
  have h3 := h.rest
  rw [drop_get cur k (by rw [h.len]; exact hk), drop_get xs k hk] at h3
  rw [drop_set_succ, (List.cons.inj h3).2]
theorem up_vl {B : Nat} {xs cur : List Nat} {k y : Nat} (h : Up B xs cur k) (hk : k < xs.length) : vl B ((cur.set k y).take (k + 1)) = vl B (cur.take k) + B ^ k * y := by
  have hc := h.len
  rw [take_set_succ (by omega), vl_snoc, List.length_take, Nat.min_eq_left (by omega)]

/-- addTo: the carry c ahead of place k. -/
def AddR (B : Nat) (xs bs cur : List Nat) (k c : Nat) : Prop := Up B xs cur k ∧ vl B (cur.take k) + B ^ k * c = vl B (xs.take k) + vl B (bs.take k) ∧ c ≤ 1
theorem addR_start {B : Nat} {xs bs : List Nat} (h : Lim B xs) : AddR B xs bs xs 0 0 := ⟨up_start h, by simp [vl], by omega⟩
theorem addR_step {B : Nat} (hB : 2 ≤ B) {xs bs cur : List Nat} {k c : Nat} (h : AddR B xs bs cur k c) (hx : Lim B xs) (hb : Lim B bs) (hk : k < xs.length) (z : Nat) (hz : z = c + xs[k] + bs.getD k 0) : AddR B xs bs (cur.set k (z % B)) (k + 1) (z / B) := by
  obtain ⟨h1, h2, h3⟩ := h
  have b1 := lim_get hx k hk
  have b2 := getD_lt hb (by omega) k
  refine ⟨up_step h1 hk (Nat.mod_lt _ (by omega)), ?_, ?_⟩
  · rw [up_vl h1 hk, vl_take_succ B xs k hk, vl_take_get B bs k, Nat.pow_succ]
    have hd := digit_step (B := B) (P := B ^ k) (z := z)
    have e1 := congrArg (B ^ k * ·) hz
    simp only [Nat.mul_add] at hd e1 h2 ⊢
    omega
  · have : z < B * 2 := by omega
    have := Nat.div_lt_of_lt_mul this
    omega

/-- takeFrom: what is carried of the product, and what was borrowed. -/
def TakeR (B t : Nat) (xs bs cur : List Nat) (k m r : Nat) : Prop := Up B xs cur k ∧ vl B (cur.take k) + t * vl B (bs.take k) = vl B (xs.take k) + B ^ k * (m + r) ∧ r ≤ 1 ∧ (m = 0 ∨ m < t) ∧ (bs.length < k → t ≤ B → m = 0)
theorem takeR_start {B t : Nat} {xs bs : List Nat} (h : Lim B xs) : TakeR B t xs bs xs 0 0 0 := ⟨up_start h, by simp [vl], by omega, .inl rfl, fun _ _ => rfl⟩
theorem takeR_step {B t : Nat} (hB : 2 ≤ B) {xs bs cur : List Nat} {k m r : Nat} (h : TakeR B t xs bs cur k m r) (hb : Lim B bs) (hk : k < xs.length) (z y r' : Nat) (hz : z = m + t * bs.getD k 0)
    (hy : y + z % B + r = xs[k] + B * r') (hy2 : y < B) (hr : r' ≤ 1) : TakeR B t xs bs (cur.set k y) (k + 1) (z / B) r' := by
  obtain ⟨h1, h2, h3, h4, _⟩ := h
  have b2 := getD_lt hb (by omega) k
  refine ⟨up_step h1 hk hy2, ?_, hr, ?_, fun hl ht => ?_⟩
  · rw [up_vl h1 hk, vl_take_succ B xs k hk, vl_take_get B bs k, Nat.pow_succ]
    have hd := digit_step (B := B) (P := B ^ k) (z := z)
    have e1 := congrArg (B ^ k * ·) hz
    have e2 := congrArg (B ^ k * ·) hy
    simp only [Nat.mul_add, ← Nat.mul_assoc] at hd e1 e2 h2 ⊢
    rw [Nat.mul_comm t (B ^ k)]
    omega
  · rcases Nat.eq_zero_or_pos t with ht | ht
    · left
      subst ht
      obtain rfl : m = 0 := by omega
      rw [hz]; simp
    · right
      apply Nat.div_lt_of_lt_mul
      have : t * bs.getD k 0 ≤ t * (B - 1) := Nat.mul_le_mul_left _ (by omega)
      rw [Nat.mul_sub, Nat.mul_one, Nat.mul_comm t B] at this
      have : t ≤ B * t := Nat.le_mul_of_pos_left t (by omega)
      omega
  · rw [hz, getD_no (by omega), Nat.mul_zero, Nat.add_zero]
    exact Nat.div_eq_of_lt (by omega)

/-- mulAdd. -/
def MulR (B t more : Nat) (xs cur : List Nat) (k c : Nat) : Prop := Up B xs cur k ∧ vl B (cur.take k) + B ^ k * c = vl B (xs.take k) * t + more ∧ c < B
theorem mulR_start {B t more : Nat} {xs : List Nat} (h : Lim B xs) (hm : more < B) : MulR B t more xs xs 0 more := ⟨up_start h, by simp [vl], hm⟩
theorem mulR_step {B t more : Nat} {xs cur : List Nat} {k c : Nat} (h : MulR B t more xs cur k c) (ht : t < B) (hx : Lim B xs) (hk : k < xs.length) (z : Nat) (hz : z = c + xs[k] * t) : MulR B t more xs (cur.set k (z % B)) (k + 1) (z / B) := by
  obtain ⟨h1, h2, h3⟩ := h
  have b1 := lim_get hx k hk
  have hzb : z < B * B := by
    have h5 : (xs[k] + 1) * (t + 1) ≤ B * B := Nat.mul_le_mul b1 ht
    simp only [Nat.add_mul, Nat.mul_add, Nat.mul_one, Nat.one_mul] at h5
    have h6 : xs[k] * t + xs[k] + t + 1 ≤ B * B := by omega
    rcases Nat.eq_zero_or_pos (xs[k] * t) with h7 | h7
    · have : B ≤ B * B := Nat.le_mul_of_pos_left B (by omega)
      omega
    · have h8 : (B - 1) * (B - 1) + B ≤ B * B := by
        obtain ⟨b, rfl⟩ : ∃ b, B = b + 1 := ⟨B - 1, by omega⟩
        simp only [Nat.add_sub_cancel, Nat.add_mul, Nat.mul_add, Nat.mul_one, Nat.one_mul]
        omega
      have h9 : xs[k] * t ≤ (B - 1) * (B - 1) := Nat.mul_le_mul (by omega) (by omega)
      omega
  refine ⟨up_step h1 hk (Nat.mod_lt _ (by omega)), ?_, Nat.div_lt_of_lt_mul hzb⟩
  rw [up_vl h1 hk, vl_take_succ B xs k hk, Nat.pow_succ]
  have hd := digit_step (B := B) (P := B ^ k) (z := z)
  have e1 := congrArg (B ^ k * ·) hz
  simp only [Nat.mul_add, ← Nat.mul_assoc] at hd e1 h2 ⊢
  rw [Nat.add_mul]
  omega

/-- The state of a loop that goes down: from i on done. -/
structure Down (B : Nat) (xs cur : List Nat) (i : Nat) : Prop where
  len : cur.length = xs.length
  lim : Lim B cur
  rest : cur.take i = xs.take i
  le : i ≤ xs.length
theorem down_start {B : Nat} {xs : List Nat} (h : Lim B xs) : Down B xs xs xs.length := ⟨rfl, h, rfl, Nat.le_refl _⟩
theorem down_get {B : Nat} {xs cur : List Nat} {i : Nat} (h : Down B xs cur (i + 1)) : cur[i]'(by have := h.len; have := h.le; omega) = xs[i]'h.le := by
  have h3 := h.rest
  rw [take_succ_get cur i (by have := h.len; have := h.le; omega), take_succ_get xs i h.le] at h3
  exact List.singleton_inj.1 (List.append_inj' h3 rfl).2
theorem down_step {B : Nat} {xs cur : List Nat} {i y : Nat} (h : Down B xs cur (i + 1)) (hy : y < B) : Down B xs (cur.set i y) i := by
  refine ⟨by rw [List.length_set, h.len], lim_set h.lim hy, ?_, by have := h.le; omega⟩
  have h3 := congrArg (List.take i) h.rest
  rw [List.take_take, List.take_take, Nat.min_eq_left (by omega)] at h3
  rw [take_set_same, h3]
theorem down_vl {B : Nat} {xs cur : List Nat} {i y : Nat} (h : Down B xs cur (i + 1)) : vl B ((cur.set i y).drop i) = y + B * vl B (cur.drop (i + 1)) := by
  rw [drop_set_same (by have := h.len; have := h.le; omega), vl_cons]
/-- divLimb: what is left ahead of place i. -/
def DivR (B d : Nat) (xs cur : List Nat) (i left : Nat) : Prop := Down B xs cur i ∧ vl B (xs.drop i) = d * vl B (cur.drop i) + left ∧ left < d
theorem divR_start {B d : Nat} {xs : List Nat} (h : Lim B xs) (hd : 0 < d) : DivR B d xs xs xs.length 0 := ⟨down_start h, by simp [vl], hd⟩
theorem divR_step {B d : Nat} {xs cur : List Nat} {i left : Nat} (h : DivR B d xs cur (i + 1) left) (hx : Lim B xs) (z : Nat) (hz : z = left * B + xs[i]'h.1.le) : DivR B d xs (cur.set i (z / d)) i (z % d) ∧ z / d < B := by
  obtain ⟨h1, h2, h3⟩ := h
  have hi := h1.le
  have b1 := lim_get hx i hi
  have hq : z / d < B := by
    apply Nat.div_lt_of_lt_mul
    have : (left + 1) * B ≤ d * B := Nat.mul_le_mul_right _ h3
    rw [Nat.add_mul, Nat.one_mul] at this
    omega
  refine ⟨⟨down_step h1 hq, ?_, Nat.mod_lt _ (by omega)⟩, hq⟩
  rw [down_vl h1, drop_get xs i hi, vl_cons, h2]
  have := Nat.div_add_mod z d
  simp only [Nat.mul_add, ← Nat.mul_assoc, Nat.mul_comm B d, Nat.mul_comm left B] at *
  omega
/-- shiftDown by D (a power of two that divides B): the word's lowest digit is the one above. -/
def ShdR (B D : Nat) (xs cur : List Nat) (i v : Nat) : Prop := Down B xs cur i ∧ vl B (cur.drop i) = vl B (xs.drop i) / D ∧ v = vl B (xs.drop i) % B
theorem shdR_start {B D : Nat} {xs : List Nat} (h : Lim B xs) : ShdR B D xs xs xs.length 0 := ⟨down_start h, by simp [vl], by simp [vl]⟩
theorem shd_num {B D q x V : Nat} (hD : 0 < D) (hB : B = D * q) (hx : x < B) : (x + B * V) / D = ((V % B * B + x) / D) % B + B * (V / D) := by
  subst hB
  have e1 : V % (D * q) % D = V % D := Nat.mod_mul_right_mod V D q
  have e2 := Nat.div_add_mod V D
  have e3 := Nat.div_add_mod (V % (D * q)) D
  rw [e1] at e3
  have hr : V % D < D := Nat.mod_lt _ hD
  generalize V / D = a at *
  generalize V % (D * q) / D = b at *
  generalize V % (D * q) = c at *
  generalize V % D = r at *
  rw [← e2, ← e3]
  have f1 : x + D * q * (D * a + r) = (x + D * q * r) + D * (D * q * a) := by
    simp only [Nat.mul_add, Nat.mul_comm, Nat.mul_left_comm]; omega
  have f2 : (D * b + r) * (D * q) + x = (x + D * q * r) + D * (D * q * b) := by
    simp only [Nat.mul_add, Nat.mul_comm, Nat.mul_left_comm]; omega
  rw [f1, f2, Nat.add_mul_div_left _ _ hD, Nat.add_mul_div_left _ _ hD, Nat.add_mul_mod_self_left]
  congr 1
  symm
  apply Nat.mod_eq_of_lt
  apply Nat.div_lt_of_lt_mul
  have : D * q * (r + 1) ≤ D * q * D := Nat.mul_le_mul_left _ hr
  rw [Nat.mul_add, Nat.mul_one] at this
  rw [Nat.mul_comm D (D * q)]
  omega
theorem shdR_step {B D q : Nat} (hD : 0 < D) (hB : B = D * q) {xs cur : List Nat} {i v : Nat} (h : ShdR B D xs cur (i + 1) v) (hx : Lim B xs) (y : Nat) (hy : y = ((v * B + xs[i]'h.1.le) / D) % B) : ShdR B D xs (cur.set i y) i (xs[i]'h.1.le) := by
  obtain ⟨h1, h2, rfl⟩ := h
  have hi := h1.le
  have b1 := lim_get hx i hi
  refine ⟨down_step h1 (by rw [hy]; exact Nat.mod_lt _ (by omega)), ?_, ?_⟩
  · rw [down_vl h1, drop_get xs i hi, vl_cons, shd_num hD hB b1, h2, hy]
  · rw [drop_get xs i hi, vl_cons, Nat.add_mul_mod_self_left, Nat.mod_eq_of_lt b1]
/-- shiftUp by D, the limbs of a into cur. -/
def ShuR (B D : Nat) (al cur : List Nat) (i c : Nat) : Prop := vl B (cur.take i) + B ^ i * c = vl B (al.take i) * D ∧ c < D ∧ Lim B cur
theorem shuR_start {B D : Nat} {al cur : List Nat} (h : Lim B cur) (hD : 0 < D) : ShuR B D al cur 0 0 := ⟨by simp [vl], hD, h⟩
theorem shuR_step {B D : Nat} {al cur : List Nat} {i c : Nat} (h : ShuR B D al cur i c) (ha : Lim B al) (hi : i < al.length) (hc : i < cur.length) (z : Nat) (hz : z = al[i] * D + c) : ShuR B D al (cur.set i (z % B)) (i + 1) (z / B) := by
  obtain ⟨h1, h2, h3⟩ := h
  have b1 := lim_get ha i hi
  refine ⟨?_, ?_, lim_set h3 (Nat.mod_lt _ (by omega))⟩
  · rw [take_set_succ hc, vl_snoc, List.length_take, Nat.min_eq_left (by omega), vl_take_succ B al i hi, Nat.pow_succ, Nat.add_mul]
    have hd := digit_step (B := B) (P := B ^ i) (z := z)
    have e1 := congrArg (B ^ i * ·) hz
    simp only [Nat.mul_add, ← Nat.mul_assoc] at hd e1 h1 ⊢
    omega
  · apply Nat.div_lt_of_lt_mul
    have : (al[i] + 1) * D ≤ B * D := Nat.mul_le_mul_right _ b1
    rw [Nat.add_mul, Nat.one_mul] at this
    omega
end Go.Proofs.YtbbbdcohkfijoaaGreatDoor
