/- Six rows of the call's own, apart from each other; append of what came in. -/
import Derived.Test.YtflnackpkcldjaaDoorNatLa
namespace Go.Proofs.YtflnackpkcldjaaDoor
open Go.RowKit Go.Lib

/-- append to a row of the call's own of limbs that are read, of a nil slice too. -/
theorem wpList_append_rd {w : World} {ops : Array Oper} {rest : List Oper} {o : Oper} {a : Act} {Q : Exit → Act → World → Prop} (hgd : o.guard = none) (s x : Operand)
    (ho : o.op = .call { callee := .builtin .append, args := #[s, x], argTypes := #[22, 22] }) (base : Nat) (v : Value) (ys : List Nat) (hs : a.eval s = v) (hown : Own .u32 w base 47 v ys)
    (A : Option Addr) (xs : List Nat) (c : Nat) (hx : a.eval x = .slice A xs.length c) (hA : A = none → c = 0) (hr : Rd .u32 w A xs) (hn : ys.length + xs.length ≤ 100000) (hbase : base ≤ w.heap.size)
    (h : ∀ v' w', Own .u32 w' base 47 v' (ys ++ xs) → w.grownBy w' v.ownBlock → (v'.ownBlock = v.ownBlock ∨ v'.ownBlock = some w.heap.size) → wpList Tryd.prog ops Q rest (a.put o.dst v') w') : wpList Tryd.prog ops Q (o :: rest) a w := by
  obtain ⟨i0, hi, hz0, hz1, hz2⟩ := info_parts info_u32
  rcases A with _ | ⟨g, off, p⟩
  · obtain rfl := hA rfl
    have hxn : xs = [] := by
      by_cases h : xs = []
      · exact h
      · obtain ⟨_, _, e, _⟩ := hr.at_ h
        cases e
    subst hxn
    refine wpList_append_own_none hgd s x 22 ho base 47 i0 1 Tryd.underlying22 hi v ys.length (nums .u32 ys) hs hown hx ?_
    refine h v w ?_ (World.grownBy.refl w _) (.inl rfl)
    rw [List.append_nil]; exact hown
  · have hp : xs ≠ [] → p = none := fun h => by
      obtain ⟨_, _, e, _⟩ := hr.at_ h
      cases e; rfl
    have hc : ∀ j u, (nums .u32 xs)[j]? = some u → w.cell? ((⟨g, off, p⟩ : Addr).add j) = some u := by
      by_cases hx : xs = []
      · subst hx; intro j u hu; simp [nums] at hu
      · obtain rfl := hp hx
        exact hr.news
    refine wpList_append_own_at w hgd s x 22 ho base 47 i0 (.int .u32 0) 1 4 Tryd.underlying22 hi hz0 hz1 hz2 rfl (by decide) v ys.length (nums .u32 ys) hs hown ⟨g, off, p⟩ xs.length c (nums .u32 xs) hx (by rw [nums_len]; omega) hc (nums_one _ _) (by unfold maxLen; omega) (by omega) hbase ?_
    intro v' w' h2 h3 _ h5
    exact h v' w' (Own.append h2 rfl rfl) h3 h5

def Apart (u v : Value) : Prop := u.ownBlock = none ∨ u.ownBlock ≠ v.ownBlock
structure Rows6 (W : World) (B : Nat) (vs : Nat → Value) (Ls : Nat → List Nat) : Prop where
  own : ∀ i, i < 6 → Own .u32 W B 47 (vs i) (Ls i)
  apart : ∀ i j, i < 6 → j < 6 → i ≠ j → Apart (vs i) (vs j)
/-- f, but y at k. -/
def upd {α : Type} (f : Nat → α) (k : Nat) (y : α) : Nat → α := fun i => if i = k then y else f i
theorem upd_same {α : Type} (f : Nat → α) (k : Nat) (y : α) : upd f k y k = y := if_pos rfl
theorem upd_ne {α : Type} (f : Nat → α) {k i : Nat} (y : α) (h : i ≠ k) : upd f k y i = f i := if_neg h
section
variable {W W' : World} {B : Nat} {vs : Nat → Value} {Ls : Nat → List Nat}
theorem Rows6.kept (h : Rows6 W B vs Ls) {row : Option Nat} (hg : W.grownBy W' row) (hne : ∀ i, i < 6 → (vs i).ownBlock = none ∨ (vs i).ownBlock ≠ row) : Rows6 W' B vs Ls :=
  ⟨fun i hi => (h.own i hi).kept hg (hne i hi), h.apart⟩
theorem Rows6.alloc (h : Rows6 W B vs Ls) (o : Obj) : Rows6 (W.alloc o) B vs Ls := ⟨fun i hi => (h.own i hi).alloc o, h.apart⟩
theorem Rows6.below (h : Rows6 W B vs Ls) (hb : Below W.heap.size W W') : Rows6 W' B vs Ls := ⟨fun i hi => (h.own i hi).below hb, h.apart⟩
theorem Rows6.lt (h : Rows6 W B vs Ls) {i g : Nat} (hi : i < 6) (e : (vs i).ownBlock = some g) : B ≤ g ∧ g < W.heap.size := World.ownsRow.lt (h.own i hi) g e
theorem Rows6.set (h : Rows6 W B vs Ls) {k g n c : Nat} (hk : k < 6) (hv : vs k = .slice (some ⟨g, 0, none⟩) n c) (j y : Nat) : Rows6 (W.setCell ⟨g, j, none⟩ (.int .u32 (y : Nat))) B vs (upd Ls k ((Ls k).set j y)) := by
  refine ⟨fun i hi => ?_, h.apart⟩
  by_cases e : i = k
  · subst e
    rw [upd_same]
    have ho := h.own i hi
    rw [hv] at ho ⊢
    exact ho.set ho.len j y
  · rw [upd_ne _ _ e]
    refine (h.own i hi).kept (grown_set (grown_refl W (some g)) _) ?_
    have := h.apart i k hi hk e
    rw [hv] at this
    exact this
theorem Rows6.app (h : Rows6 W B vs Ls) {k : Nat} (hk : k < 6) {v' : Value} {ys : List Nat} (hO : Own .u32 W' B 47 v' ys) (hg : W.grownBy W' (vs k).ownBlock) (hl : v'.ownBlock = (vs k).ownBlock ∨ v'.ownBlock = some W.heap.size) : Rows6 W' B (upd vs k v') (upd Ls k ys) := by
  refine ⟨fun i hi => ?_, fun i j hi hj hne => ?_⟩
  · by_cases e : i = k
    · subst e; rw [upd_same, upd_same]; exact hO
    · rw [upd_ne _ _ e, upd_ne _ _ e]
      exact (h.own i hi).kept hg (h.apart i k hi hk e)
  · by_cases e : i = k
    · subst e
      rw [upd_same, upd_ne _ _ (Ne.symm hne)]
      rcases hl with e2 | e2
      · unfold Apart; rw [e2]; exact h.apart i j hi hj hne
      · refine .inr fun e3 => ?_
        rw [e2] at e3
        have := (h.lt hj e3.symm).2
        omega
    · rw [upd_ne _ _ e]
      by_cases e2 : j = k
      · subst e2
        rw [upd_same]
        rcases hl with e3 | e3
        · unfold Apart; rw [e3]; exact h.apart i j hi hj hne
        · cases hb : (vs i).ownBlock with
          | none => exact .inl hb
          | some g =>
            refine .inr fun e4 => ?_
            rw [hb, e3] at e4
            have := (h.lt hi hb).2
            cases e4
            omega
      · rw [upd_ne _ _ e2]
        exact h.apart i j hi hj hne
end
/-- Rows of other elements lie elsewhere. -/
theorem row_types {κ : IntKind} {w : World} {B B' n : Nat} {t t' : TypeId} {v v' : Value} {xs : List Nat} {cs : List Value} (h : Own κ w B t v xs) (h' : w.ownsRow B' t' 1 v' n cs) (hne : t ≠ t') : v.ownBlock = none ∨ v.ownBlock ≠ v'.ownBlock := by
  rcases h.2 with ⟨rfl, _⟩ | ⟨g, cap, cur, rfl, _, hg, _⟩
  · exact .inl rfl
  · refine .inr fun e => ?_
    rcases h'.2 with ⟨rfl, _⟩ | ⟨g', cap', cur', rfl, _, hg', _⟩
    · cases e
    · have e2 : g = g' := Option.some.inj e
      subst e2
      rw [hg] at hg'
      cases hg'
      exact hne rfl
/-- Cells of blocks from lo to hi are as they were. -/
def Stays (lo hi : Nat) (W W' : World) : Prop := ∀ g j, lo ≤ g → g < hi → W'.cell? ⟨g, j, none⟩ = W.cell? ⟨g, j, none⟩
theorem Stays.refl (lo hi : Nat) (W : World) : Stays lo hi W W := fun _ _ _ _ => rfl
theorem Stays.set {lo hi : Nat} {W W' : World} (h : Stays lo hi W W') {g j : Nat} (hg : g < lo ∨ hi ≤ g) (u : Value) : Stays lo hi W (W'.setCell ⟨g, j, none⟩ u) := fun b i h1 h2 => by
  rw [World.cell?_setCell_other _ _ _ _ (fun e => by cases e; omega)]
  exact h b i h1 h2
theorem Stays.grown {lo hi : Nat} {W W' W'' : World} (h : Stays lo hi W W') {row : Option Nat} (hg : W'.grownBy W'' row) (hne : ∀ r, row = some r → r < lo ∨ hi ≤ r) (hs : hi ≤ W'.heap.size) : Stays lo hi W W'' := fun b i h1 h2 => by
  rw [← h b i h1 h2]
  exact World.cell?_of_block (hg.block b (by omega) (fun e => by have := hne b e.symm; omega))
theorem Rd.stays {κ : IntKind} {lo hi g n c B : Nat} {W W' : World} {t : TypeId} {xs : List Nat} (h : Own κ W B t (.slice (some ⟨g, 0, none⟩) n c) xs) (hs : Stays lo hi W W') (h1 : lo ≤ g) (h2 : g < hi) : Rd κ W' (some ⟨g, 0, none⟩) xs :=
  Rd.of fun j hj => by rw [Nat.zero_add, hs g j h1 h2]; exact h.cell j hj
end Go.Proofs.YtflnackpkcldjaaDoor
