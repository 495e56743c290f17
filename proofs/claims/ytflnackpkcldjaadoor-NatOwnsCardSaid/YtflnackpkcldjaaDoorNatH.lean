/- Words for memory: a row of numbers within a block that may be written; a slice that is read. -/
import Derived.WalkSmall
import Derived.WalkKit
import Derived.ProofKit
import Derived.Below
import Derived.Lib.Hide
import Derived.Laws.OwnMore
import Derived.Lib.SmallJoins
import Derived.Test.YtflnackpkcldjaaDoorProg
import Derived.Test.YtflnackpkcldjaaDoorNatG
namespace Go.Proofs.YtflnackpkcldjaaDoor
open Go.RowKit

/-- Numbers as cells. -/
def nums (κ : IntKind) (xs : List Nat) : List Value := xs.map fun x : Nat => Value.int κ (x : Int)
theorem nums_len (κ : IntKind) (xs : List Nat) : (nums κ xs).length = xs.length := List.length_map _
theorem nums_set (κ : IntKind) (xs : List Nat) (k y : Nat) : (nums κ xs).set k (.int κ (y : Nat)) = nums κ (xs.set k y) := by
  unfold nums; rw [List.map_set]
theorem nums_append (κ : IntKind) (xs ys : List Nat) : nums κ (xs ++ ys) = nums κ xs ++ nums κ ys := List.map_append
/-- Block g is L, then the numbers xs, then R, and may be written. -/
def At (κ : IntKind) (w : World) (g : Nat) (t : TypeId) (L : List Value) (xs : List Nat) (R : List Value) : Prop :=
  ∃ cs : Array Value, w.heap[g]? = some (.cells cs t (0, 0)) ∧ cs.toList = L ++ nums κ xs ++ R
section
variable {κ : IntKind} {w w' : World} {g o : Nat} {t : TypeId} {L R : List Value} {xs : List Nat}
theorem At.lt (h : At κ w g t L xs R) : g < w.heap.size := by
  obtain ⟨cs, h1, _⟩ := h
  exact (Array.getElem?_eq_some_iff.1 h1).1
theorem At.cell (h : At κ w g t L xs R) (ho : L.length = o) (k : Nat) (hk : k < xs.length) : w.cell? ⟨g, o + k, none⟩ = some (.int κ (xs[k] : Nat)) := by
  obtain ⟨cs, h1, h2⟩ := h
  rw [cell_of_row w g _ cs t (0, 0) h1, ← Array.getElem?_toList, h2, List.append_assoc, List.getElem?_append_right (by omega), ← ho, Nat.add_sub_cancel_left, List.getElem?_append_left (by rw [nums_len]; exact hk), nums, List.getElem?_map, List.getElem?_eq_getElem hk]
  rfl
theorem At.frozen (h : At κ w g t L xs R) (j : Nat) : w.frozen? ⟨g, j, none⟩ = false := by
  obtain ⟨cs, h1, _⟩ := h
  exact frozen_of_row w g j cs t h1
theorem At.set (h : At κ w g t L xs R) (ho : L.length = o) (k y : Nat) (hk : k < xs.length) : At κ (w.setCell ⟨g, o + k, none⟩ (.int κ (y : Nat))) g t L (xs.set k y) R := by
  obtain ⟨cs, h1, h2⟩ := h
  refine ⟨cs.setIfInBounds (o + k) (.int κ (y : Nat)), heap_setCell_same w g (o + k) cs t _ h1, ?_⟩
  rw [Array.toList_setIfInBounds, h2, List.append_assoc, List.set_append, if_neg (by omega), List.set_append, if_pos (by rw [nums_len]; omega), show o + k - L.length = k by omega, nums_set, List.append_assoc]
theorem At.set_ (h : At κ w g t L xs R) (ho : L.length = o) (k : Nat) (hk : k < xs.length) (z : Int) (y : Nat) (hz : z = (y : Int)) : At κ (w.setCell ⟨g, o + k, none⟩ (.int κ z)) g t L (xs.set k y) R := by
  subst hz
  exact h.set ho k y hk
theorem At.drew (h : At κ w g t L xs R) : At κ w.drew g t L xs R := h
theorem At.drewN (h : At κ w g t L xs R) (n : Nat) : At κ (w.drewN n) g t L xs R := h
theorem At.far (h : At κ w g t L xs R) {g' j : Nat} (hne : g ≠ g') (u : Value) : At κ (w.setCell ⟨g', j, none⟩ u) g t L xs R := by
  obtain ⟨cs, h1, h2⟩ := h
  exact ⟨cs, (heap_setCell_other w ⟨g', j, none⟩ g u (fun e => hne (by simpa using e))).trans h1, h2⟩
theorem At.alloc (h : At κ w g t L xs R) (o : Obj) : At κ (w.alloc o) g t L xs R := by
  obtain ⟨cs, h1, h2⟩ := h
  exact ⟨cs, (Below.heap_alloc w o g (Array.getElem?_eq_some_iff.1 h1).1).trans h1, h2⟩
theorem At.kept (h : At κ w g t L xs R) {row : Option Nat} (hg : w.grownBy w' row) (hne : some g ≠ row) : At κ w' g t L xs R := by
  obtain ⟨cs, h1, h2⟩ := h
  exact ⟨cs, (hg.block g (Array.getElem?_eq_some_iff.1 h1).1 hne).trans h1, h2⟩
theorem At.below (h : At κ w g t L xs R) {B : Nat} (hb : Below B w w') (hg : g < B) : At κ w' g t L xs R := by
  obtain ⟨cs, h1, h2⟩ := h
  exact ⟨cs, (hb.block g hg).trans h1, h2⟩
/-- Another cut of the same block. -/
theorem At.recut (h : At κ w g t L xs R) {L' R' : List Value} {ys : List Nat} (e : L ++ nums κ xs ++ R = L' ++ nums κ ys ++ R') : At κ w g t L' ys R' := by
  obtain ⟨cs, h1, h2⟩ := h
  exact ⟨cs, h1, h2.trans e⟩
end
theorem vint {κ : IntKind} {a b : Int} (h : a = b) : Value.int κ a = Value.int κ b := by rw [h]
theorem grown_refl (w : World) (row : Option Nat) : w.grownBy w row := ⟨rfl, rfl, rfl, Nat.le_refl _, fun _ _ _ => rfl⟩
theorem grown_trans {a b c : World} {row : Option Nat} (h : a.grownBy b row) (k : b.grownBy c row) : a.grownBy c row :=
  ⟨k.os.trans h.os, k.tape.trans h.tape, k.output.trans h.output, Nat.le_trans h.size k.size, fun i hi hne => (k.block i (Nat.lt_of_lt_of_le hi h.size) hne).trans (h.block i hi hne)⟩
theorem grown_set {a w : World} {g j : Nat} (h : a.grownBy w (some g)) (u : Value) : a.grownBy (w.setCell ⟨g, j, none⟩ u) (some g) :=
  grown_trans h ⟨rfl, rfl, rfl, by simp [World.setCell], fun k _ hk => heap_setCell_other w ⟨g, j, none⟩ k u (fun e => hk (by simp [e]))⟩
theorem grown_drew {a w : World} {row : Option Nat} (h : a.grownBy w row) : a.grownBy w.drew row := ⟨h.os, h.tape, h.output, h.size, h.block⟩
theorem grown_alloc {a w : World} {row : Option Nat} (h : a.grownBy w row) (o : Obj) : a.grownBy (w.alloc o) row := grown_trans h (World.grownBy_alloc w o row)
theorem grown_below {a b c : World} {g B : Nat} (h : Below B a b) (hg : b.grownBy c (some g)) (hB : B ≤ b.heap.size) (h2 : B ≤ g) : Below B a c :=
  h.grown hg hB (fun _ e => by cases e; exact h2)
theorem below_drewN' {B : Nat} {a w : World} (h : Below B a w) (n : Nat) : Below B a (w.drewN n) := ⟨h.os, h.tape, h.output, h.size, h.block⟩
/-- A slice that is read. -/
def Rd (κ : IntKind) (w : World) (A : Option Addr) (xs : List Nat) : Prop :=
  ∀ j (_ : j < xs.length), ∃ g o, A = some ⟨g, o, none⟩ ∧ w.cell? ⟨g, o + j, none⟩ = some (.int κ (xs[j] : Nat))
/-- It does not lie in block g. -/
def Off (A : Option Addr) (g : Nat) : Prop := ∀ a, A = some a → a.block ≠ g
section
variable {κ : IntKind} {w w' : World} {A : Option Addr} {xs : List Nat}
theorem Rd.nil : Rd κ w A [] := fun _ h => by simp at h
theorem Rd.at_ (h : Rd κ w A xs) (hx : xs ≠ []) : ∃ g o, A = some ⟨g, o, none⟩ ∧ ∀ j (_ : j < xs.length), w.cell? ⟨g, o + j, none⟩ = some (.int κ (xs[j] : Nat)) := by
  obtain ⟨g, o, rfl, _⟩ := h 0 (List.length_pos_iff.2 hx)
  refine ⟨g, o, rfl, fun j hj => ?_⟩
  obtain ⟨g', o', e, hc⟩ := h j hj
  cases e
  exact hc
theorem Rd.of {g o : Nat} (h : ∀ j (_ : j < xs.length), w.cell? ⟨g, o + j, none⟩ = some (.int κ (xs[j] : Nat))) : Rd κ w (some ⟨g, o, none⟩) xs := fun j hj => ⟨g, o, rfl, h j hj⟩
theorem Rd.kept (h : Rd κ w A xs) {g : Nat} (hg : w.grownBy w' (some g)) (hne : Off A g) : Rd κ w' A xs := fun j hj => by
  obtain ⟨g', o, e, hc⟩ := h j hj
  exact ⟨g', o, e, hg.cell hc (by intro e2; cases e2; exact hne _ e rfl)⟩
theorem Rd.below (h : Rd κ w A xs) (hb : Below w.heap.size w w') : Rd κ w' A xs := fun j hj => by
  obtain ⟨g', o, e, hc⟩ := h j hj
  exact ⟨g', o, e, (hb.cell (World.block_lt_of_cell? w _ hc)).trans hc⟩
theorem Rd.take (h : Rd κ w A xs) (n : Nat) : Rd κ w A (xs.take n) := fun j hj => by
  have hj2 : j < xs.length := by rw [List.length_take] at hj; omega
  obtain ⟨g, o, e, hc⟩ := h j hj2
  exact ⟨g, o, e, by rw [hc, List.getElem_take]⟩
theorem At.rd {g : Nat} {t : TypeId} {L R : List Value} (h : At κ w g t L xs R) : Rd κ w (some ⟨g, L.length, none⟩) xs := Rd.of fun j hj => h.cell rfl j hj
/-- What lies in old memory is not in a new block. -/
theorem Rd.off (h : Rd κ w A xs) (hx : xs ≠ []) {g : Nat} (hg : w.heap.size ≤ g) : Off A g := by
  obtain ⟨g', o, rfl, hc⟩ := h.at_ hx
  intro a e
  cases e
  have := World.block_lt_of_cell? w _ (hc 0 (List.length_pos_iff.2 hx))
  show g' ≠ g
  exact fun e => by subst e; exact absurd this (by simpa using hg)
end
/-- A row of the call's own, of numbers. -/
def Own (κ : IntKind) (w : World) (B : Nat) (t : TypeId) (v : Value) (xs : List Nat) : Prop := w.ownsRow B t 1 v xs.length (nums κ xs)
end Go.Proofs.YtflnackpkcldjaaDoor
