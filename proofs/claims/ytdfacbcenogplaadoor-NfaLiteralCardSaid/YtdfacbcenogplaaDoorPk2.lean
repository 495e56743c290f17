/- Several texts in one (Plain: a search that goes all ways at once finds the first of the longest matches (layer 10); Plain: what holds of all instructions that are laid for a tree (layer 10); Plain: what holds of all that is made ready of a tree that may be; rows and choices one by one (layer 10); Plain: what stands ahead stays while a tree is laid; rounds one by one (layer 10); Blocks of cells: what lies in them, and what is kept; A pattern's tree in memory; Contracts of layer 10: characters of words, and the conditions). -/
import Derived.WalkSmall
import Derived.WalkKit
import Derived.WalkSpells
import Derived.WalkLawsBesides
import Derived.ProofKit
import Derived.Below
import Derived.Lib.Hide
import Derived.Laws.OwnMore
import Derived.Lib.SmallJoins
import Derived.Maps.OwnSet
import Derived.Maps.RangeWalk
import Derived.Test.YtdfacbcenogplaaDoorProg
import Derived.Deep.QuietTactic
import Derived.BigQuiet
import Derived.IntWalk
import Derived.Test.YtdfacbcenogplaaDoorPk1
namespace Go.Proofs.YtdfacbcenogplaaDoor

/-- One step that goes over no character, at a place. -/
def NEps (E : NEnv) (D : List Ins) (p n m : Nat) : Prop := ∃ x, D[n]? = some x ∧ x.kind ≠ 0 ∧ ¬ leafK x.kind ∧ (x.kind = 6 ∨ E.hold x.kind p = true) ∧ m ∈ x.ways
/-- One step over a character. -/
def NStep (E : NEnv) (D : List Ins) (p n p' m : Nat) : Prop := ∃ x, D[n]? = some x ∧ leafK x.kind ∧ E.nxt p = some p' ∧ E.fit x.kind x.code x.neg x.set p = true ∧ x.ways.head? = some m
def NLeaf (D : List Ins) (n : Nat) : Prop := ∃ x, D[n]? = some x ∧ leafK x.kind
/-- From an instruction at a place to one at a place. -/
inductive NReach (E : NEnv) (D : List Ins) (i a : Nat) : Nat → Nat → Prop
  | here : NReach E D i a i a
  | eps {n p m : Nat} (h : NReach E D i a n p) (k : NEps E D p n m) : NReach E D i a m p
  | step {n p m q : Nat} (h : NReach E D i a n p) (k : NStep E D p n q m) : NReach E D i a m q
/-- Steps at one place. -/
inductive NStar (E : NEnv) (D : List Ins) (p : Nat) : Nat → Nat → Prop
  | here {n : Nat} : NStar E D p n n
  | more {n m k : Nat} (h : NEps E D p n m) (r : NStar E D p m k) : NStar E D p n k
theorem NReach.star {E : NEnv} {D : List Ins} {i a n p m : Nat} (h : NReach E D i a n p) (k : NStar E D p n m) : NReach E D i a m p := by
  induction k with
  | here => exact h
  | more e _ ih => exact ih (.eps h e)
/-- Only the first instruction ends. -/
def OneEnd (D : List Ins) : Prop := ∀ (i : Nat) (x : Ins), D[i]? = some x → (x.kind = 0 ↔ i = 0)
theorem NReach.goes {E : NEnv} {D : List Ins} {i a n p b : Nat} (h : NReach E D i a n p) : NGo E D n p b → NGo E D i a b := by
  induction h with
  | here => exact id
  | eps h k ih =>
    rintro ⟨c, hc⟩
    obtain ⟨x, hx, h0, hl, ho, hm⟩ := k
    exact ih ⟨c + 1, .way hx h0 hl ho hm hc⟩
  | step h k ih =>
    rintro ⟨c, hc⟩
    obtain ⟨x, hx, hl, hn, hf, hm⟩ := k
    exact ih ⟨c + 1, .leaf hx hl hn hf hm hc⟩
/-- The places from one on. -/
inductive NOn (E : NEnv) (o : Nat) : Nat → Prop
  | here : NOn E o o
  | next {a b : Nat} (h : NOn E o a) (k : E.nxt a = some b) : NOn E o b
def Rising (E : NEnv) : Prop := ∀ a b, E.nxt a = some b → a < b
theorem NOn.le {E : NEnv} (hE : Rising E) {o a : Nat} (h : NOn E o a) : o ≤ a := by
  induction h with
  | here => exact Nat.le_refl _
  | next _ k ih => exact Nat.le_trans ih (Nat.le_of_lt (hE _ _ k))
theorem NOn.trans {E : NEnv} {o a b : Nat} (h : NOn E o a) (k : NOn E a b) : NOn E o b := by
  induction k with
  | here => exact h
  | next _ e ih => exact .next ih e
theorem NOn.cases' {E : NEnv} {o b : Nat} (h : NOn E o b) : o = b ∨ ∃ m, E.nxt o = some m ∧ NOn E m b := by
  induction h with
  | here => exact .inl rfl
  | next h k ih =>
    rcases ih with rfl | ⟨m, hm, hr⟩
    · exact .inr ⟨_, k, .here⟩
    · exact .inr ⟨m, hm, .next hr k⟩
theorem NOn.order {E : NEnv} {o a b : Nat} (h : NOn E o a) (k : NOn E o b) : NOn E a b ∨ NOn E b a := by
  induction h with
  | here => exact .inl k
  | next _ e ih =>
    rcases ih with h1 | h1
    · rcases h1.cases' with rfl | ⟨m, hm, hr⟩
      · exact .inr (.next .here e)
      · rw [e] at hm
        cases hm
        exact .inl hr
    · exact .inr (.next h1 e)
/-- Between a place and the next one there is none. -/
theorem NOn.between {E : NEnv} (hE : Rising E) {o a b c : Nat} (h : NOn E o a) (k : NOn E o b) (hn : E.nxt a = some c) (hb : b < c) : b ≤ a := by
  rcases h.order k with h1 | h1
  · rcases h1.cases' with rfl | ⟨m, hm, hr⟩
    · exact Nat.le_refl _
    · rw [hn] at hm
      cases hm
      have := hr.le hE
      omega
  · exact h1.le hE
/-- A search's own state at a place. -/
structure SS where
  row : Nat → Prop
  next : List (Nat × Nat)
  found : Bool
  st : Nat
  en : Nat
/-- What following some instructions, of one start, does at a place. -/
structure Fol (E : NEnv) (D : List Ins) (p start : Nat) (s s' : SS) (roots : Nat → Prop) : Prop where
  mono : ∀ n, s.row n → s'.row n
  root : ∀ n, roots n → s'.row n
  new : ∀ n, s'.row n → s.row n ∨ ∃ r, roots r ∧ NStar E D p r n
  closed : ∀ n m, s'.row n → ¬ s.row n → NEps E D p n m → s'.row m
  next : ∃ l, s'.next = s.next ++ l ∧ (∀ q ∈ l, q.2 = start) ∧ ∀ n, (n, start) ∈ l ↔ NLeaf D n ∧ s'.row n ∧ ¬ s.row n
  fnd : (s'.row 0 ∧ ¬ s.row 0 ∧ s'.found = true ∧ s'.st = start ∧ s'.en = p) ∨ ((s'.row 0 → s.row 0) ∧ s'.found = s.found ∧ s'.st = s.st ∧ s'.en = s.en)
theorem Fol.refl (E : NEnv) (D : List Ins) (p start : Nat) (s : SS) : Fol E D p start s s (fun _ => False) :=
  ⟨fun _ h => h, fun _ h => h.elim, fun _ h => .inl h, fun _ _ h k _ => absurd h k, ⟨[], by simp, fun _ h => (nomatch h), fun n => ⟨fun h => (nomatch h), fun h => absurd h.2.1 h.2.2⟩⟩, .inr ⟨id, rfl, rfl, rfl⟩⟩
theorem Fol.trans {E : NEnv} {D : List Ins} {p start : Nat} {s s1 s2 : SS} {A B : Nat → Prop} (h : Fol E D p start s s1 A) (k : Fol E D p start s1 s2 B) : Fol E D p start s s2 (fun n => A n ∨ B n) := by
  refine ⟨fun n hn => k.mono n (h.mono n hn), fun n hn => ?_, fun n hn => ?_, fun n m hn hs he => ?_, ?_, ?_⟩
  · rcases hn with hn | hn
    · exact k.mono n (h.root n hn)
    · exact k.root n hn
  · rcases k.new n hn with h1 | ⟨r, hr, hs⟩
    · rcases h.new n h1 with h2 | ⟨r, hr, hs⟩
      · exact .inl h2
      · exact .inr ⟨r, .inl hr, hs⟩
    · exact .inr ⟨r, .inr hr, hs⟩
  · by_cases q : s1.row n
    · exact k.mono m (h.closed n m q hs he)
    · exact k.closed n m hn q he
  · obtain ⟨l1, e1, a1, b1⟩ := h.next
    obtain ⟨l2, e2, a2, b2⟩ := k.next
    refine ⟨l1 ++ l2, by rw [e2, e1, List.append_assoc], fun q hq => ?_, fun n => ?_⟩
    · rcases List.mem_append.1 hq with hq | hq
      · exact a1 q hq
      · exact a2 q hq
    · rw [List.mem_append, b1, b2]
      constructor
      · rintro (⟨hl, h1, h2⟩ | ⟨hl, h1, h2⟩)
        · exact ⟨hl, k.mono n h1, h2⟩
        · exact ⟨hl, h1, fun q => h2 (h.mono n q)⟩
      · rintro ⟨hl, h1, h2⟩
        by_cases q : s1.row n
        · exact .inl ⟨hl, q, h2⟩
        · exact .inr ⟨hl, h1, q⟩
  · rcases k.fnd with ⟨k1, k2, k3, k4, k5⟩ | ⟨k1, k2, k3, k4⟩
    · exact .inl ⟨k1, fun q => k2 (h.mono 0 q), k3, k4, k5⟩
    · rcases h.fnd with ⟨h1, h2, h3, h4, h5⟩ | ⟨h1, h2, h3, h4⟩
      · exact .inl ⟨k.mono 0 h1, h2, k2.trans h3, k3.trans h4, k4.trans h5⟩
      · exact .inr ⟨fun q => h1 (k1 q), k2.trans h2, k3.trans h3, k4.trans h4⟩
/-- What was there already. -/
theorem Fol.stay {E : NEnv} {D : List Ins} {p start n : Nat} {s : SS} (h : s.row n) : Fol E D p start s s (fun k => k = n) :=
  ⟨fun _ h => h, fun k hk => by rw [hk]; exact h, fun _ h => .inl h, fun _ _ h k _ => absurd h k, ⟨[], by simp, fun _ h => (nomatch h), fun n => ⟨fun h => (nomatch h), fun h => absurd h.2.1 h.2.2⟩⟩, .inr ⟨id, rfl, rfl, rfl⟩⟩
def SS.mark (s : SS) (n : Nat) : SS := { s with row := fun k => s.row k ∨ k = n }
/-- The end. -/
theorem Fol.end {E : NEnv} {D : List Ins} {p start : Nat} {s : SS} (h1 : OneEnd D) {x : Ins} (hx : D[0]? = some x) (h : ¬ s.row 0) : Fol E D p start s { s.mark 0 with found := true, st := start, en := p } (fun k => k = 0) := by
  have hk := (h1 0 x hx).2 rfl
  refine ⟨fun _ q => .inl q, fun k hk => .inr hk, fun k hk => ?_, fun n m hn hs he => ?_, ⟨[], by simp [SS.mark], fun _ q => (nomatch q), fun n => ⟨fun q => (nomatch q), fun q => ?_⟩⟩, .inl ⟨.inr rfl, h, rfl, rfl, rfl⟩⟩
  · rcases hk with hk | rfl
    · exact .inl hk
    · exact .inr ⟨_, rfl, .here⟩
  · rcases hn with hn | rfl
    · exact absurd hn hs
    · obtain ⟨y, hy, h0, _⟩ := he
      rw [hx] at hy
      cases hy
      exact absurd hk h0
  · obtain ⟨⟨y, hy, hl⟩, hn, hs⟩ := q
    rcases hn with hn | rfl
    · exact absurd hn hs
    · rw [hx] at hy
      cases hy
      rw [hk] at hl
      rcases hl with hl | hl | hl <;> cases hl
/-- A leaf. -/
theorem Fol.leaf {E : NEnv} {D : List Ins} {p start n : Nat} {s : SS} {x : Ins} (hx : D[n]? = some x) (hl : leafK x.kind) (h1 : OneEnd D) (h : ¬ s.row n) : Fol E D p start s { s.mark n with next := s.next ++ [(n, start)] } (fun k => k = n) := by
  have h0 : n ≠ 0 := fun q => by
    have := (h1 n x hx).2 q
    rw [this] at hl
    rcases hl with hl | hl | hl <;> cases hl
  refine ⟨fun _ q => .inl q, fun k hk => .inr hk, fun k hk => ?_, fun k m hn hs he => ?_, ⟨[(n, start)], rfl, fun q hq => by rw [List.mem_singleton.1 hq], fun k => ⟨fun q => ?_, fun q => ?_⟩⟩, .inr ⟨fun q => ?_, rfl, rfl, rfl⟩⟩
  · rcases hk with hk | rfl
    · exact .inl hk
    · exact .inr ⟨_, rfl, .here⟩
  · rcases hn with hn | rfl
    · exact absurd hn hs
    · obtain ⟨y, hy, _, h2, _⟩ := he
      rw [hx] at hy
      cases hy
      exact absurd hl h2
  · have := List.mem_singleton.1 q
    simp only [Prod.mk.injEq, and_true] at this
    rw [this]
    exact ⟨⟨x, hx, hl⟩, .inr rfl, h⟩
  · obtain ⟨_, hn, hs⟩ := q
    rcases hn with hn | rfl
    · exact absurd hn hs
    · exact List.mem_singleton.2 rfl
  · rcases q with q | q
    · exact q
    · exact absurd q.symm h0
/-- What is on the way: marked, and its ways followed. -/
theorem Fol.way {E : NEnv} {D : List Ins} {p start n : Nat} {s s' : SS} {x : Ins} (hx : D[n]? = some x) (h0 : x.kind ≠ 0) (hl : ¬ leafK x.kind) (h1 : OneEnd D) (h : ¬ s.row n) (hf : Fol E D p start (s.mark n) s' (fun k => (x.kind = 6 ∨ E.hold x.kind p = true) ∧ k ∈ x.ways)) : Fol E D p start s s' (fun k => k = n) := by
  have hn0 : n ≠ 0 := fun q => h0 ((h1 n x hx).2 q)
  have hm : s'.row n := hf.mono n (.inr rfl)
  refine ⟨fun k q => hf.mono k (.inl q), fun k hk => by rw [hk]; exact hm, fun k hk => ?_, fun k m hk hs he => ?_, ?_, ?_⟩
  · rcases hf.new k hk with (h2 | rfl) | ⟨r, ⟨hc, hr⟩, hs⟩
    · exact .inl h2
    · exact .inr ⟨_, rfl, .here⟩
    · exact .inr ⟨n, rfl, .more ⟨x, hx, h0, hl, hc, hr⟩ hs⟩
  · by_cases q : k = n
    · subst q
      obtain ⟨y, hy, _, _, hc, hw⟩ := he
      rw [hx] at hy
      cases hy
      exact hf.root m ⟨hc, hw⟩
    · exact hf.closed k m hk (fun r => r.elim hs q) he
  · obtain ⟨l, e, a, b⟩ := hf.next
    refine ⟨l, e, a, fun k => ?_⟩
    rw [b]
    constructor
    · rintro ⟨h2, h3, h4⟩
      exact ⟨h2, h3, fun q => h4 (.inl q)⟩
    · rintro ⟨h2, h3, h4⟩
      refine ⟨h2, h3, fun q => q.elim h4 fun q => ?_⟩
      obtain ⟨y, hy, hly⟩ := h2
      rw [q, hx] at hy
      cases hy
      exact hl hly
  · rcases hf.fnd with ⟨a, b, c⟩ | ⟨a, c⟩
    · exact .inl ⟨a, fun q => b (.inl q), c⟩
    · exact .inr ⟨fun q => (a q).elim id fun q => absurd q.symm hn0, c⟩
/-- What a search from place o holds, at place p (the one ahead of it is q), while the ways 'rest' are still to be gone: M0 was marked before, V is what it has marked, with its starts. All starts below c have been tried. -/
structure Srch (E : NEnv) (D : List Ins) (M0 : Nat → Nat → Prop) (o first q p c : Nat) (rest : List (Nat × Nat)) (s : SS) (V : Nat → Nat → Nat → Prop) : Prop where
  on : NOn E o p
  prev : rest ≠ [] → E.nxt q = some p ∧ NOn E o q
  row : ∀ n, s.row n ↔ M0 n p ∨ ∃ st, V n p st
  v1 : ∀ n x st, V n x st → NOn E o st ∧ st ≤ x ∧ NOn E o x ∧ x ≤ p ∧ st < c ∧ ¬ M0 n x ∧ NReach E D first st n x
  v2 : ∀ n x st m, V n x st → NEps E D x n m → M0 m x ∨ ∃ st', st' ≤ st ∧ V m x st'
  v3 : ∀ n x st x' m, V n x st → NStep E D x n x' m → x' ≤ p → (M0 m x' ∨ (∃ st', st' ≤ st ∧ V m x' st') ∨ (s.found = true ∧ s.st < st)) ∨ (x' = p ∧ (n, st) ∈ rest)
  v4 : ∀ a, NOn E o a → a < c → M0 first a ∨ (∃ st', st' ≤ a ∧ V first a st') ∨ (s.found = true ∧ s.st < a)
  v5 : ∀ n st, (n, st) ∈ s.next ↔ NLeaf D n ∧ V n p st
  srt : s.next.Pairwise (fun x y => x.2 ≤ y.2)
  v6 : s.found = true → V 0 s.en s.st
  v7 : ∀ x st, V 0 x st → s.found = true ∧ (s.st < st ∨ (s.st = st ∧ x ≤ s.en))
  v8 : ∀ n x st, V n x st → s.found = true → s.en ≤ x → st ≤ s.st
  rs : rest.Pairwise (fun x y => x.2 ≤ y.2)
  rw' : ∀ w ∈ rest, (∀ n st, V n p st → st ≤ w.2) ∧ V w.1 q w.2
theorem Srch.start (E : NEnv) (D : List Ins) (hE : Rising E) (M0 : Nat → Nat → Prop) (o first : Nat) {s : SS} (hr : ∀ n, s.row n ↔ M0 n o) (hn : s.next = []) (hf : s.found = false) : Srch E D M0 o first o o o [] s (fun _ _ _ => False) :=
  ⟨.here, fun h => absurd rfl h, fun n => by rw [hr]; exact ⟨.inl, fun h => h.elim id fun ⟨_, h⟩ => h.elim⟩, fun _ _ _ h => h.elim, fun _ _ _ _ h => h.elim, fun _ _ _ _ _ h => h.elim, fun a ha hc => absurd (ha.le hE) (by omega),
    fun n st => by rw [hn]; exact ⟨fun h => (nomatch h), fun h => h.2.elim⟩, by rw [hn]; exact .nil, fun h => absurd (hf.symm.trans h) (by decide), fun _ _ h => h.elim, fun _ _ _ h => h.elim, .nil, fun _ h => (nomatch h)⟩
/-- A follow. -/
theorem Srch.grow {E : NEnv} {D : List Ins} (hE : Rising E) {M0 : Nat → Nat → Prop} {o first q p c c' : Nat} {rest : List (Nat × Nat)} {s s' : SS} {V : Nat → Nat → Nat → Prop} {start : Nat} {roots : Nat → Prop} (h : Srch E D M0 o first q p c rest s V) (hf : Fol E D p start s s' roots)
    (h1 : NOn E o start) (h2 : start ≤ p) (h3 : c ≤ c' ∧ start < c') (h4 : ∀ r, roots r → NReach E D first start r p) (h5 : ∀ n st, V n p st → st ≤ start) (h6 : ∀ w ∈ rest, start ≤ w.2) (h7 : s.found = true → start ≤ s.st)
    (h8 : ∀ a, NOn E o a → c ≤ a → a < c' → a = p ∧ start = p ∧ roots first) :
    ∃ V', Srch E D M0 o first q p c' rest s' V' ∧ (∀ n x st, V n x st → V' n x st) ∧ ∀ r, roots r → M0 r p ∨ ∃ st', st' ≤ start ∧ V' r p st' := by
  have hnew : ∀ n, s'.row n → M0 n p ∨ ∃ st', st' ≤ start ∧ (V n p st' ∨ (p = p ∧ st' = start ∧ s'.row n ∧ ¬ s.row n)) := fun n hn => by
    by_cases hs : s.row n
    · rcases (h.row n).1 hs with q | ⟨st, q⟩
      · exact .inl q
      · exact .inr ⟨st, h5 n st q, .inl q⟩
    · exact .inr ⟨start, Nat.le_refl _, .inr ⟨rfl, rfl, hn, hs⟩⟩
  have hreach : ∀ n, s'.row n → ¬ s.row n → NReach E D first start n p := fun n hn hs => by
    rcases hf.new n hn with q | ⟨r, hr, hst⟩
    · exact absurd q hs
    · exact (h4 r hr).star hst
  -- what was found stands or is bettered
  have hcut : ∀ st, s.found = true ∧ s.st < st → s'.found = true ∧ s'.st < st := fun st ⟨a, b⟩ => by
    rcases hf.fnd with ⟨_, _, f1, f2, _⟩ | ⟨_, f1, f2, _⟩
    · exact ⟨f1, by rw [f2]; exact Nat.lt_of_le_of_lt (h7 a) b⟩
    · exact ⟨f1.trans a, by rw [f2]; exact b⟩
  refine ⟨fun n x st => V n x st ∨ (x = p ∧ st = start ∧ s'.row n ∧ ¬ s.row n), ⟨h.on, h.prev, fun n => ?_, fun n x st hv => ?_, fun n x st m hv he => ?_, fun n x st x' m hv he hx => ?_, fun a ha hc => ?_, fun n st => ?_, ?_, fun hfd => ?_, fun x st hv => ?_, fun n x st hv hfd hx => ?_, h.rs, fun w hw => ⟨fun n st hv => ?_, .inl (h.rw' w hw).2⟩⟩, fun n x st hv => .inl hv, fun r hr => ?_⟩
  · constructor
    · intro hn
      rcases hnew n hn with q | ⟨st, _, q | q⟩
      · exact .inl q
      · exact .inr ⟨st, .inl q⟩
      · exact .inr ⟨st, .inr q⟩
    · rintro (q | ⟨st, q | q⟩)
      · exact hf.mono n ((h.row n).2 (.inl q))
      · exact hf.mono n ((h.row n).2 (.inr ⟨st, q⟩))
      · exact q.2.2.1
  · rcases hv with hv | ⟨rfl, rfl, hn, hs⟩
    · obtain ⟨a1, a2, a3, a4, a5, a6, a7⟩ := h.v1 n x st hv
      exact ⟨a1, a2, a3, a4, by omega, a6, a7⟩
    · exact ⟨h1, h2, h.on, Nat.le_refl _, h3.2, fun q => hs ((h.row n).2 (.inl q)), hreach n hn hs⟩
  · rcases hv with hv | ⟨rfl, rfl, hn, hs⟩
    · rcases h.v2 n x st m hv he with q | ⟨st', a, b⟩
      · exact .inl q
      · exact .inr ⟨st', a, .inl b⟩
    · exact hnew m (hf.closed n m hn hs he)
  · rcases hv with hv | ⟨rfl, rfl, hn, hs⟩
    · rcases h.v3 n x st x' m hv he hx with (q | ⟨st', a, b⟩ | q) | q
      · exact .inl (.inl q)
      · exact .inl (.inr (.inl ⟨st', a, .inl b⟩))
      · exact .inl (.inr (.inr (hcut _ q)))
      · exact .inr q
    · obtain ⟨y, _, _, hy, _⟩ := he
      exact absurd hx (Nat.not_le_of_lt (hE _ _ hy))
  · by_cases q : a < c
    · rcases h.v4 a ha q with q | ⟨st', a', b⟩ | q
      · exact .inl q
      · exact .inr (.inl ⟨st', a', .inl b⟩)
      · exact .inr (.inr (hcut _ q))
    · obtain ⟨rfl, hst, hr⟩ := h8 a ha (by omega) hc
      rcases hnew first (hf.root _ hr) with q | ⟨st', a', b⟩
      · exact .inl q
      · exact .inr (.inl ⟨st', by omega, b⟩)
  · obtain ⟨l, e, la, lb⟩ := hf.next
    rw [e, List.mem_append, h.v5]
    constructor
    · rintro (⟨a, b⟩ | q)
      · exact ⟨a, .inl b⟩
      · have := la _ q
        simp only at this
        subst this
        obtain ⟨a, b, c⟩ := (lb n).1 q
        exact ⟨a, .inr ⟨rfl, rfl, b, c⟩⟩
    · rintro ⟨a, b | ⟨_, rfl, b, c⟩⟩
      · exact .inl ⟨a, b⟩
      · exact .inr ((lb n).2 ⟨a, b, c⟩)
  · obtain ⟨l, e, la, lb⟩ := hf.next
    rw [e, List.pairwise_append]
    refine ⟨h.srt, List.pairwise_iff_forall_sublist.2 fun {x y} hxy => ?_, fun x hx y hy => ?_⟩
    · have hx := la x (hxy.subset (by simp))
      have hy := la y (hxy.subset (by simp))
      omega
    · have := la y hy
      have := h5 x.1 x.2 ((h.v5 x.1 x.2).1 hx).2
      omega
  · rcases hf.fnd with ⟨f0, f0', f1, f2, f3⟩ | ⟨_, f1, f2, f3⟩
    · rw [f2, f3]
      exact .inr ⟨rfl, rfl, f0, f0'⟩
    · rw [f2, f3]
      exact .inl (h.v6 (f1.symm.trans hfd))
  · rcases hv with hv | ⟨rfl, rfl, hn, hs⟩
    · obtain ⟨a, b⟩ := h.v7 x st hv
      have hxp := (h.v1 0 x st hv).2.2.2.1
      rcases hf.fnd with ⟨_, _, f1, f2, f3⟩ | ⟨_, f1, f2, f3⟩
      · refine ⟨f1, ?_⟩
        rw [f2, f3]
        have := h7 a
        omega
      · refine ⟨f1.trans a, ?_⟩
        rw [f2, f3]
        exact b
    · rcases hf.fnd with ⟨_, _, f1, f2, f3⟩ | ⟨f0, _⟩
      · exact ⟨f1, .inr ⟨f2, by omega⟩⟩
      · exact absurd (f0 hn) hs
  · rcases hf.fnd with ⟨_, _, f1, f2, f3⟩ | ⟨_, f1, f2, f3⟩
    · rw [f3] at hx
      rw [f2]
      rcases hv with hv | ⟨rfl, rfl, hn, hs⟩
      · have hxp := (h.v1 n x st hv).2.2.2.1
        obtain rfl : x = p := by omega
        exact h5 n st hv
      · exact Nat.le_refl _
    · rw [f3] at hx
      rw [f2]
      have hfo := f1.symm.trans hfd
      rcases hv with hv | ⟨rfl, rfl, hn, hs⟩
      · exact h.v8 n x st hv hfo hx
      · exact h7 hfo
  · rcases hv with hv | ⟨_, rfl, _, _⟩
    · exact (h.rw' w hw).1 n st hv
    · exact h6 w hw
  · exact hnew r (hf.root r hr)
/-- A way that was gone. -/
theorem Srch.drop {E : NEnv} {D : List Ins} {M0 : Nat → Nat → Prop} {o first q p c : Nat} {w : Nat × Nat} {rest : List (Nat × Nat)} {s : SS} {V : Nat → Nat → Nat → Prop} (hE : Rising E) (h : Srch E D M0 o first q p c (w :: rest) s V)
    (hw : ∀ m, NStep E D q w.1 p m → M0 m p ∨ (∃ st', st' ≤ w.2 ∧ V m p st') ∨ (s.found = true ∧ s.st < w.2)) : Srch E D M0 o first q p c rest s V := by
  obtain ⟨hq, hoq⟩ := h.prev (by simp)
  refine ⟨h.on, fun _ => ⟨hq, hoq⟩, h.row, h.v1, h.v2, fun n x st x' m hv he hx => ?_, h.v4, h.v5, h.srt, h.v6, h.v7, h.v8, (List.pairwise_cons.1 h.rs).2, fun w' hw' => h.rw' w' (List.mem_cons_of_mem _ hw')⟩
  rcases h.v3 n x st x' m hv he hx with k | ⟨rfl, k⟩
  · exact .inl k
  · rcases List.mem_cons.1 k with k | k
    · have hxq : x = q := by
        obtain ⟨y, _, _, hy, _⟩ := id he
        have h1 := NOn.between hE hoq (h.v1 n x st hv).2.2.1 hq (hE _ _ hy)
        have h2 := NOn.between hE (h.v1 n x st hv).2.2.1 hoq hy (hE _ _ hq)
        omega
      subst hxq
      subst k
      exact .inl (hw m he)
    · exact .inr ⟨rfl, k⟩
/-- The ways behind a match that begins ahead of them are left. -/
theorem Srch.stop {E : NEnv} {D : List Ins} {M0 : Nat → Nat → Prop} {o first q p c : Nat} {w : Nat × Nat} {rest : List (Nat × Nat)} {s : SS} {V : Nat → Nat → Nat → Prop} (h : Srch E D M0 o first q p c (w :: rest) s V)
    (hf : s.found = true) (hw : s.st < w.2) : Srch E D M0 o first q p c [] s V := by
  refine ⟨h.on, fun k => absurd rfl k, h.row, h.v1, h.v2, fun n x st x' m hv he hx => ?_, h.v4, h.v5, h.srt, h.v6, h.v7, h.v8, .nil, fun w' hw' => (nomatch hw')⟩
  rcases h.v3 n x st x' m hv he hx with k | ⟨_, k⟩
  · exact .inl k
  · refine .inl (.inr (.inr ⟨hf, ?_⟩))
    rcases List.mem_cons.1 k with k | k
    · rw [← k] at hw
      exact hw
    · have := (List.pairwise_cons.1 h.rs).1 _ k
      simp only at this
      omega
/-- To the next place. -/
theorem Srch.move {E : NEnv} {D : List Ins} {M0 : Nat → Nat → Prop} {o first q p p' : Nat} {s s' : SS} {V : Nat → Nat → Nat → Prop} (hE : Rising E) (h : Srch E D M0 o first q p (p + 1) [] s V) (hp : E.nxt p = some p')
    (hr : ∀ n, s'.row n ↔ M0 n p') (hn : s'.next = []) (hf : s'.found = s.found) (hs : s'.st = s.st) (he : s'.en = s.en) : Srch E D M0 o first p p' p' s.next s' V := by
  have hlt := hE _ _ hp
  have hno : ∀ n st, ¬ V n p' st := fun n st hv => by
    have := (h.v1 n p' st hv).2.2.2.1
    omega
  refine ⟨.next h.on hp, fun _ => ⟨hp, h.on⟩, fun n => ?_, fun n x st hv => ?_, h.v2, fun n x st x' m hv hst hx => ?_, fun a ha hc => ?_, fun n st => ?_, ?_, fun k => ?_, fun x st hv => ?_, fun n x st hv k hx => ?_, h.srt, fun w hw => ⟨fun n st hv => absurd hv (hno n st), ((h.v5 w.1 w.2).1 hw).2⟩⟩
  · rw [hr]
    exact ⟨.inl, fun k => k.elim id fun ⟨st, k⟩ => absurd k (hno n st)⟩
  · obtain ⟨a1, a2, a3, a4, a5, a6, a7⟩ := h.v1 n x st hv
    exact ⟨a1, a2, a3, by omega, by omega, a6, a7⟩
  · rw [hf, hs]
    by_cases k : x' ≤ p
    · rcases h.v3 n x st x' m hv hst k with k | ⟨_, k⟩
      · exact .inl k
      · exact (nomatch k)
    · obtain ⟨y, hy, hl, hnx, _⟩ := id hst
      obtain ⟨_, _, a3, a4, _⟩ := h.v1 n x st hv
      have hpx := NOn.between hE a3 h.on hnx (by omega)
      obtain rfl : x = p := by omega
      rw [hp] at hnx
      cases hnx
      exact .inr ⟨rfl, (h.v5 n st).2 ⟨⟨y, hy, hl⟩, hv⟩⟩
  · rw [hf, hs]
    exact h.v4 a ha (by have := NOn.between hE h.on ha hp hc; omega)
  · rw [hn]
    exact ⟨fun k => (nomatch k), fun k => absurd k.2 (hno n st)⟩
  · rw [hn]
    exact .nil
  · rw [hs, he]
    exact h.v6 (hf.symm.trans k)
  · rw [hf, hs, he]
    exact h.v7 x st hv
  · rw [hs]
    rw [he] at hx
    exact h.v8 n x st hv (hf.symm.trans k) hx
theorem NRun.le {E : NEnv} {D : List Ins} (hE : Rising E) {k i a b : Nat} (h : NRun E D k i a b) : a ≤ b := by
  induction h with
  | done => exact Nat.le_refl _
  | leaf _ _ hn _ _ _ ih => have := hE _ _ hn; omega
  | way _ _ _ _ _ _ ih => exact ih
/-- What was marked before leads to nothing that counts. -/
structure Dead (E : NEnv) (D : List Ins) (M0 : Nat → Nat → Prop) (o : Nat) : Prop where
  none : ∀ n x b, M0 n x → NOn E o x → NGo E D n x b → b = x ∧ x = o
  closed : ∀ n m x, M0 n x → NEps E D x n m → M0 m x
theorem Dead.empty (E : NEnv) (D : List Ins) (o : Nat) : Dead E D (fun _ _ => False) o := ⟨fun _ _ _ h => h.elim, fun _ _ _ h => h.elim⟩
theorem Dead.end {E : NEnv} {D : List Ins} {M0 : Nat → Nat → Prop} {o : Nat} (hE : Rising E) (h1 : OneEnd D) (h : Dead E D M0 o) {k n b : Nat} (hr : NRun E D k n o b) : b = o → M0 n o → M0 0 o := by
  generalize ho : o = a at hr
  induction hr with
  | done hx hk => intro _ hm; subst ho; rw [← (h1 _ _ hx).1 hk]; exact hm
  | leaf _ _ hn _ _ hr _ => intro e _; have := hE _ _ hn; have := hr.le hE; omega
  | way hx h0 hk hc hj _ ih => intro e hm; subst ho; exact ih rfl e (h.closed _ _ _ hm ⟨_, hx, h0, hk, hc, hj⟩)
/-- What a search has found when it ends. -/
structure Best (E : NEnv) (D : List Ins) (M0 : Nat → Nat → Prop) (o first : Nat) (found : Bool) (st en : Nat) : Prop where
  sure : found = true → NOn E o st ∧ NGo E D first st en ∧ ¬ (M0 0 o ∧ en = o)
  all : ∀ a b, NOn E o a → NGo E D first a b → (M0 0 o ∧ b = o) ∨ (found = true ∧ (st < a ∨ (st = a ∧ b ≤ en)))
theorem Srch.key {E : NEnv} {D : List Ins} {M0 : Nat → Nat → Prop} {o first q p : Nat} {s : SS} {V : Nat → Nat → Nat → Prop} (hE : Rising E) (h1 : OneEnd D) (hD : Dead E D M0 o) (h : Srch E D M0 o first q p (p + 1) [] s V)
    (hend : E.nxt p = none ∨ (s.found = true ∧ s.next = [])) : ∀ k n x b st, NRun E D k n x b → V n x st → (M0 0 o ∧ b = o) ∨ (s.found = true ∧ (s.st < st ∨ (s.st = st ∧ b ≤ s.en))) := by
  have hm : ∀ n x b, M0 n x → NOn E o x → NGo E D n x b → M0 0 o ∧ b = o := fun n x b hm ho hg => by
    obtain ⟨rfl, rfl⟩ := hD.none n x b hm ho hg
    obtain ⟨k, hg⟩ := hg
    exact ⟨hD.end hE h1 hg rfl hm, rfl⟩
  intro k n x b st hr
  induction hr generalizing st with
  | done hx hk =>
    intro hv
    rw [(h1 _ _ hx).1 hk] at hv
    exact .inr (h.v7 _ _ hv)
  | leaf hx hk hn hf hj hr ih =>
    intro hv
    rename_i n' i j a m b y
    obtain ⟨_, _, a3, a4, _⟩ := h.v1 _ _ _ hv
    have hmp : m ≤ p := by
      by_cases hap : a = p
      · subst hap
        rcases hend with e | ⟨_, e⟩
        · rw [hn] at e; cases e
        · have := (h.v5 i st).2 ⟨⟨y, hx, hk⟩, hv⟩
          rw [e] at this
          exact (nomatch this)
      · by_cases q : m ≤ p
        · exact q
        · exact absurd (NOn.between hE a3 h.on hn (by omega)) (by omega)
    rcases h.v3 i a st m j hv ⟨y, hx, hk, hn, hf, hj⟩ hmp with (k | ⟨st', h1', h2'⟩ | k) | ⟨_, k⟩
    · exact .inl (hm _ _ _ k (.next a3 hn) ⟨_, hr⟩)
    · rcases ih st' h2' with k | ⟨k, k2⟩
      · exact .inl k
      · exact .inr ⟨k, by omega⟩
    · exact .inr ⟨k.1, .inl k.2⟩
    · exact (nomatch k)
  | way hx h0 hk hc hj hr ih =>
    intro hv
    rename_i n' i j a b y
    rcases h.v2 i a st j hv ⟨y, hx, h0, hk, hc, hj⟩ with k | ⟨st', h1', h2'⟩
    · exact .inl (hm _ _ _ k (h.v1 _ _ _ hv).2.2.1 ⟨_, hr⟩)
    · rcases ih st' h2' with k | ⟨k, k2⟩
      · exact .inl k
      · exact .inr ⟨k, by omega⟩
theorem Srch.best {E : NEnv} {D : List Ins} {M0 : Nat → Nat → Prop} {o first q p : Nat} {s : SS} {V : Nat → Nat → Nat → Prop} (hE : Rising E) (h1 : OneEnd D) {x0 : Ins} (hx0 : D[0]? = some x0) (hD : Dead E D M0 o) (h : Srch E D M0 o first q p (p + 1) [] s V)
    (hend : E.nxt p = none ∨ (s.found = true ∧ s.next = [])) : Best E D M0 o first s.found s.st s.en := by
  have hm : ∀ n x b, M0 n x → NOn E o x → NGo E D n x b → M0 0 o ∧ b = o := fun n x b hm ho hg => by
    obtain ⟨rfl, rfl⟩ := hD.none n x b hm ho hg
    obtain ⟨k, hg⟩ := hg
    exact ⟨hD.end hE h1 hg rfl hm, rfl⟩
  have key := h.key hE h1 hD hend
  refine ⟨fun hf => ?_, fun a b ha hg => ?_⟩
  · have hv := h.v6 hf
    obtain ⟨a1, a2, a3, a4, a5, a6, a7⟩ := h.v1 _ _ _ hv
    refine ⟨a1, a7.goes ⟨0, .done hx0 ((h1 0 x0 hx0).2 rfl)⟩, fun ⟨k1, k2⟩ => a6 ?_⟩
    rw [k2]
    exact k1
  · by_cases hap : a < p + 1
    · rcases h.v4 a ha hap with k | ⟨st', h1', h2'⟩ | k
      · exact .inl (hm _ _ _ k ha hg)
      · obtain ⟨n, hr⟩ := hg
        rcases key n first a b st' hr h2' with k | ⟨k, k2⟩
        · exact .inl k
        · exact .inr ⟨k, by omega⟩
      · exact .inr ⟨k.1, .inl k.2⟩
    · rcases hend with e | ⟨e, _⟩
      · rcases h.on.order ha with k | k
        · rcases k.cases' with rfl | ⟨m, hm2, _⟩
          · omega
          · rw [e] at hm2; cases hm2
        · have := k.le hE; omega
      · have := (h.v1 _ _ _ (h.v6 e))
        exact .inr ⟨e, .inl (by omega)⟩
/-- The next place to look from. -/
structure Onward (E : NEnv) (st en o' : Nat) : Prop where
  full : st < en → o' = en
  empty : st = en → E.nxt en = some o'
/-- What a search has marked is dead for the next one. -/
theorem Srch.after {E : NEnv} {D : List Ins} {M0 : Nat → Nat → Prop} {o o' first q p : Nat} {s : SS} {V : Nat → Nat → Nat → Prop} (hE : Rising E) (h1 : OneEnd D) {x0 : Ins} (hx0 : D[0]? = some x0) (hD : Dead E D M0 o) (h : Srch E D M0 o first q p (p + 1) [] s V)
    (hend : E.nxt p = none ∨ (s.found = true ∧ s.next = [])) (hf : s.found = true) (ho : Onward E s.st s.en o') :
    Dead E D (fun n x => M0 n x ∨ ∃ st, V n x st) o' ∧ NOn E o o' ∧ ((M0 0 o' ∨ ∃ st, V 0 o' st) ↔ s.st < s.en) := by
  have key := h.key hE h1 hD hend
  obtain ⟨a1, a2, a3, a4, a5, a6, a7⟩ := h.v1 _ _ _ (h.v6 hf)
  have hos := a1.le hE
  have hoo : NOn E o o' ∧ s.en ≤ o' ∧ o < o' ∧ (o' = s.en ↔ s.st < s.en) := by
    by_cases q : s.st < s.en
    · obtain rfl := ho.full q
      exact ⟨a3, Nat.le_refl _, by omega, by simp [q]⟩
    · have hn := ho.empty (by omega)
      have := hE _ _ hn
      exact ⟨.next a3 hn, by omega, by omega, by omega⟩
  obtain ⟨b1, b2, b3, b4⟩ := hoo
  refine ⟨⟨fun n x b hm hx hg => ?_, fun n m x hm he => ?_⟩, b1, ?_⟩
  · have hox := hx.le hE
    rcases hm with hm | ⟨st, hv⟩
    · have := hD.none n x b hm (b1.trans hx) hg
      omega
    · obtain ⟨k, hr⟩ := hg
      have hxb := hr.le hE
      have h8 := h.v8 n x st hv hf (by omega)
      rcases key k n x b st hr hv with q | ⟨_, q⟩ <;> omega
  · rcases hm with hm | ⟨st, hv⟩
    · exact .inl (hD.closed n m x hm he)
    · rcases h.v2 n x st m hv he with q | ⟨st', _, q⟩
      · exact .inl q
      · exact .inr ⟨st', q⟩
  · constructor
    · rintro (q | ⟨st, q⟩)
      · have := hD.none 0 o' o' q b1 ⟨0, .done hx0 ((h1 0 x0 hx0).2 rfl)⟩
        omega
      · obtain ⟨_, q2⟩ := h.v7 _ _ q
        have := h.v8 _ _ _ q hf b2
        omega
    · intro q
      obtain rfl := ho.full q
      exact .inr ⟨s.st, h.v6 hf⟩
end Go.Proofs.YtdfacbcenogplaaDoor

namespace Go.Proofs.YtdfacbcenogplaaDoor

/-- It holds of all instructions from here on. -/
def AllFrom (Q : Ins → Prop) (n : Nat) (C : List Ins) : Prop := ∀ (i : Nat) (x : Ins), n ≤ i → C[i]? = some x → Q x
theorem AllFrom.app {Q : Ins → Prop} {n : Nat} {C : List Ins} {x : Ins} (h : AllFrom Q n C) (hx : Q x) : AllFrom Q n (C ++ [x]) := fun i y hi hy => by
  by_cases q : i < C.length
  · rw [List.getElem?_append_left q] at hy
    exact h i y hi hy
  · rw [List.getElem?_append_right (by omega)] at hy
    have : i - C.length = 0 := by
      have := (List.getElem?_eq_some_iff.1 hy).1
      simp at this
      omega
    rw [this] at hy
    simp at hy
    rw [← hy]
    exact hx
theorem AllFrom.set {Q : Ins → Prop} {n j : Nat} {C : List Ins} {x : Ins} (h : AllFrom Q n C) (hx : Q x) : AllFrom Q n (C.set j x) := fun i y hi hy => by
  rw [List.getElem?_set] at hy
  split at hy
  · split at hy
    · simp at hy
      rw [← hy]
      exact hx
    · cases hy
  · exact h i y hi hy
/-- A layer that keeps it. -/
def Keeps (Q : Ins → Prop) (n : Nat) (f : Nat → List Ins → Nat × List Ins) : Prop := ∀ to C, AllFrom Q n C → AllFrom Q n (f to C).2
theorem Keeps.iter {Q : Ins → Prop} {n : Nat} {f : Nat → List Ins → Nat × List Ins} (h : Keeps Q n f) : ∀ k, Keeps Q n (iterL f k)
  | 0 => fun _ _ hC => hC
  | k + 1 => fun to C hC => Keeps.iter h k _ _ (h to C hC)
theorem Keeps.opt {Q : Ins → Prop} {n out : Nat} {f : Nat → List Ins → Nat × List Ins} (hA : ∀ ws, Q (insAlt ws)) (h : Keeps Q n f) : Keeps Q n (optL f out) := fun to C hC => (h to C hC).app (hA _)
theorem Keeps.star {Q : Ins → Prop} {n : Nat} {f : Nat → List Ins → Nat × List Ins} (hA : ∀ ws, Q (insAlt ws)) (h : Keeps Q n f) : Keeps Q n (starL f) := fun _ _ hC => (h _ _ (hC.app (hA _))).set (hA _)
theorem Keeps.rep {Q : Ins → Prop} {n : Nat} {f : Nat → List Ins → Nat × List Ins} (hA : ∀ ws, Q (insAlt ws)) (h : Keeps Q n f) (lo hi : Int) : Keeps Q n (repL f lo hi) := fun to C hC => by
  unfold repL
  refine h.iter _ _ _ ((h.opt hA).iter _ _ _ ?_)
  split
  · exact h.star hA to C hC
  · exact hC
mutual
/-- It holds of all leaves and conditions of a tree. -/
def Tr.ends (F : Int → Int → Bool → List (Int × Int) → Prop) : Tr → Prop
  | .mk kind code neg set _ _ kids => (kind ≠ 1 → kind ≠ 5 → kind ≠ 6 → kind ≠ 7 → F kind code neg set) ∧ Tr.endsL F kids
def Tr.endsL (F : Int → Int → Bool → List (Int × Int) → Prop) : List Tr → Prop
  | [] => True
  | t :: l => Tr.ends F t ∧ Tr.endsL F l
end
mutual
theorem Tr.keeps {Q : Ins → Prop} {n : Nat} (hA : ∀ ws, Q (insAlt ws)) : ∀ t : Tr, t.ends (fun kind code neg set => ∀ to, Q ⟨kind, code, neg, set, [to]⟩) → Keeps Q n t.laid
  | .mk kind code neg set lo hi kids, h, to, C, hC => by
    rw [Tr.ends] at h
    rw [Tr.laid]
    by_cases q1 : kind = 1
    · rw [if_pos q1]; exact hC
    · rw [if_neg q1]
      by_cases q5 : kind = 5
      · rw [if_pos q5]; exact Tr.keepsRow hA kids h.2 to C hC
      · rw [if_neg q5]
        by_cases q6 : kind = 6
        · rw [if_pos q6]; exact (Tr.keepsAny hA kids h.2 to C hC).app (hA _)
        · rw [if_neg q6]
          by_cases q7 : kind = 7
          · rw [if_pos q7]; exact Keeps.rep hA (Tr.keepsHead hA kids h.2) lo hi to C hC
          · rw [if_neg q7]; exact hC.app (h.1 q1 q5 q6 q7 to)
theorem Tr.keepsRow {Q : Ins → Prop} {n : Nat} (hA : ∀ ws, Q (insAlt ws)) : ∀ l : List Tr, Tr.endsL (fun kind code neg set => ∀ to, Q ⟨kind, code, neg, set, [to]⟩) l → Keeps Q n (Tr.laidRow l)
  | [], _, _, _, hC => by rw [Tr.laidRow]; exact hC
  | t :: l, h, to, C, hC => by
    rw [Tr.endsL] at h
    rw [Tr.laidRow]
    exact Tr.keeps hA t h.1 _ _ (Tr.keepsRow hA l h.2 to C hC)
theorem Tr.keepsAny {Q : Ins → Prop} {n : Nat} (hA : ∀ ws, Q (insAlt ws)) : ∀ l : List Tr, Tr.endsL (fun kind code neg set => ∀ to, Q ⟨kind, code, neg, set, [to]⟩) l → ∀ to C, AllFrom Q n C → AllFrom Q n (Tr.laidAny l to C).2
  | [], _, _, _, hC => by rw [Tr.laidAny]; exact hC
  | t :: l, h, to, C, hC => by
    rw [Tr.endsL] at h
    rw [Tr.laidAny]
    exact Tr.keepsAny hA l h.2 to _ (Tr.keeps hA t h.1 to C hC)
theorem Tr.keepsHead {Q : Ins → Prop} {n : Nat} (hA : ∀ ws, Q (insAlt ws)) : ∀ l : List Tr, Tr.endsL (fun kind code neg set => ∀ to, Q ⟨kind, code, neg, set, [to]⟩) l → Keeps Q n (fun x D => Tr.laidHead l x D)
  | [], _, _, _, hC => by
    show AllFrom _ _ (Tr.laidHead [] _ _).2
    rw [Tr.laidHead]
    exact hC
  | t :: l, h, to, C, hC => by
    rw [Tr.endsL] at h
    show AllFrom _ _ (Tr.laidHead (t :: l) _ _).2
    rw [Tr.laidHead]
    exact Tr.keeps hA t h.1 to C hC
end
/-- Of a fine tree's program only the first instruction ends, and its ways stay within. -/
theorem laid_well (E : NEnv) (t : Tr) (h : t.fine) (hk : t.ends (fun kind _ _ _ => kind ≠ 0)) : OneEnd (t.laid 0 [insDone]).2 ∧ (t.laid 0 [insDone]).1 < (t.laid 0 [insDone]).2.length ∧ (t.laid 0 [insDone]).2[0]? = some insDone ∧
    ∀ (i : Nat) (x : Ins), (t.laid 0 [insDone]).2[i]? = some x → (∀ j ∈ x.ways, j < (t.laid 0 [insDone]).2.length) ∧ (leafK x.kind → x.ways ≠ []) := by
  obtain ⟨h1, h2, h3, h4, _⟩ := Tr.lays E t h 0 [insDone] (by decide)
  have hd : (t.laid 0 [insDone]).2[0]? = some insDone := h2 0 (Nat.le_refl _) (by decide)
  have hQ : AllFrom (fun x => x.kind ≠ 0) 1 (t.laid 0 [insDone]).2 := Tr.keeps (Q := fun x => x.kind ≠ 0) (fun _ => show (6 : Int) ≠ 0 by decide) t (by simpa using hk) 0 [insDone] fun i x hi hx => by
    have := (List.getElem?_eq_some_iff.1 hx).1
    simp at this
    omega
  refine ⟨fun i x hx => ⟨fun hk0 => ?_, fun hi => ?_⟩, h3, hd, fun i x hx => ?_⟩
  · by_cases q : i = 0
    · exact q
    · exact absurd hk0 (hQ i x (by omega) hx)
  · subst hi
    rw [hd] at hx
    cases hx
    rfl
  · by_cases q : i = 0
    · subst q
      rw [hd] at hx
      cases hx
      exact ⟨fun j hj => (nomatch hj), fun hl => by revert hl; decide⟩
    · exact h4 i x (by simp; omega) (List.getElem?_eq_some_iff.1 hx).1 hx
end Go.Proofs.YtdfacbcenogplaaDoor

namespace Go.Proofs.YtdfacbcenogplaaDoor

mutual
theorem ends_own (f : Int → Int) (F : Int → Int → Bool → List (Int × Int) → Prop) (hF : ∀ kind code neg set, 1 ≤ kind → kind ≤ 13 → riseB 0 set = true → F kind code neg set) : ∀ (t : Tr) (d : Nat), t.shape d = true → (t.ownT f).ends F
  | .mk kind code neg set lo hi kids, d, h => by
    obtain ⟨h0, h1, h2, h3, h4⟩ := shape_open h
    rw [Tr.ownT]
    split
    · unfold trK
      rw [Tr.ends, Tr.endsL]
      exact ⟨fun h => absurd rfl h, trivial⟩
    · rw [Tr.ends]
      refine ⟨fun k1 k5 k6 k7 => ?_, ends_owns f F hF kids _ h4⟩
      have hk : 1 ≤ kind ∧ kind ≤ 13 := by
        unfold enoughB at h1
        rw [if_neg (by omega), if_neg k7] at h1
        have := of_decide_eq_true h1
        omega
      refine hF _ _ _ _ hk.1 hk.2 ?_
      split
      · rename_i h4; exact h3 h4
      · rfl
theorem ends_owns (f : Int → Int) (F : Int → Int → Bool → List (Int × Int) → Prop) (hF : ∀ kind code neg set, 1 ≤ kind → kind ≤ 13 → riseB 0 set = true → F kind code neg set) : ∀ (l : List Tr) (d : Nat), Tr.shapes l d = true → Tr.endsL F (Tr.ownsT f l)
  | [], _, _ => by rw [Tr.ownsT, Tr.endsL]; trivial
  | t :: l, d, h => by
    rw [Tr.shapes, Bool.and_eq_true] at h
    rw [Tr.ownsT, Tr.endsL]
    exact ⟨ends_own f F hF t d h.1, ends_owns f F hF l d h.2⟩
end
theorem rise_pair : ∀ (l : List (Int × Int)) (m : Int), riseB m l = true → (∀ r ∈ l, m ≤ r.1 ∧ r.1 ≤ r.2 ∧ r.2 ≤ 1114367) ∧ l.Pairwise (fun a b => a.2 < b.1)
  | [], _, _ => ⟨fun _ h => (nomatch h), .nil⟩
  | r :: l, m, h => by
    rw [riseB] at h
    split at h
    · cases h
    · rename_i q
      obtain ⟨p1, p2⟩ := rise_pair l (r.2 + 2) h
      refine ⟨fun x hx => ?_, List.pairwise_cons.2 ⟨fun x hx => ?_, p2⟩⟩
      · rcases List.mem_cons.1 hx with rfl | hx
        · omega
        · have := p1 x hx
          omega
      · have := p1 x hx
        omega
/-! A program only grows. -/
def LenGe (f : Nat → List Ins → Nat × List Ins) : Prop := ∀ to C, C.length ≤ (f to C).2.length
theorem LenGe.iter {f : Nat → List Ins → Nat × List Ins} (h : LenGe f) : ∀ k, LenGe (iterL f k)
  | 0 => fun _ _ => Nat.le_refl _
  | k + 1 => fun to C => by
    rw [iterL]
    exact Nat.le_trans (h to C) (LenGe.iter h k _ _)
theorem LenGe.opt {f : Nat → List Ins → Nat × List Ins} (h : LenGe f) (out : Nat) : LenGe (optL f out) := fun to C => by
  have := h to C
  unfold optL
  simp
  omega
theorem LenGe.star {f : Nat → List Ins → Nat × List Ins} (h : LenGe f) : LenGe (starL f) := fun to C => by
  have := h C.length (C ++ [insAlt []])
  unfold starL
  simp at this ⊢
  omega
theorem LenGe.rep {f : Nat → List Ins → Nat × List Ins} (h : LenGe f) (lo hi : Int) : LenGe (repL f lo hi) := fun to C => by
  unfold repL
  refine Nat.le_trans ?_ ((h.iter _) _ _)
  refine Nat.le_trans ?_ (((h.opt to).iter _) _ _)
  split
  · exact h.star to C
  · exact Nat.le_refl _
mutual
theorem laid_ge : ∀ t : Tr, LenGe (fun to C => t.laid to C)
  | .mk kind code neg set lo hi kids => fun to C => by
    show C.length ≤ (Tr.laid _ to C).2.length
    rw [Tr.laid]
    by_cases k1 : kind = 1
    · rw [if_pos k1]; exact Nat.le_refl _
    · rw [if_neg k1]
      by_cases k5 : kind = 5
      · rw [if_pos k5]; exact laidRow_ge kids to C
      · rw [if_neg k5]
        by_cases k6 : kind = 6
        · rw [if_pos k6]
          have := laidAny_ge kids to C
          simp
          omega
        · rw [if_neg k6]
          by_cases k7 : kind = 7
          · rw [if_pos k7]; exact (laidHead_ge kids).rep lo hi to C
          · rw [if_neg k7]; simp
theorem laidRow_ge : ∀ (l : List Tr) (to : Nat) (C : List Ins), C.length ≤ (Tr.laidRow l to C).2.length
  | [], _, _ => by rw [Tr.laidRow]; exact Nat.le_refl _
  | t :: l, to, C => by
    rw [Tr.laidRow]
    exact Nat.le_trans (laidRow_ge l to C) (laid_ge t _ _)
theorem laidAny_ge : ∀ (l : List Tr) (to : Nat) (C : List Ins), C.length ≤ (Tr.laidAny l to C).2.length
  | [], _, _ => by rw [Tr.laidAny]; exact Nat.le_refl _
  | t :: l, to, C => by
    rw [Tr.laidAny]
    exact Nat.le_trans (laid_ge t _ _) (laidAny_ge l _ _)
theorem laidHead_ge : ∀ l : List Tr, LenGe (fun x D => Tr.laidHead l x D)
  | [] => fun to C => by
    show C.length ≤ (Tr.laidHead [] to C).2.length
    rw [Tr.laidHead]; exact Nat.le_refl _
  | t :: l => fun to C => by
    show C.length ≤ (Tr.laidHead (t :: l) to C).2.length
    rw [Tr.laidHead]; exact laid_ge t to C
end
theorem laidAny_snoc : ∀ (l : List Tr) (t : Tr) (to : Nat) (C : List Ins), Tr.laidAny (l ++ [t]) to C = ((Tr.laidAny l to C).1 ++ [(t.laid to (Tr.laidAny l to C).2).1], (t.laid to (Tr.laidAny l to C).2).2)
  | [], t, to, C => by rw [List.nil_append, Tr.laidAny, Tr.laidAny, Tr.laidAny]; rfl
  | u :: l, t, to, C => by rw [List.cons_append, Tr.laidAny, laidAny_snoc l t, Tr.laidAny]; rfl
theorem laidRow_drop (l : List Tr) (i : Nat) (h : i < l.length) (to : Nat) (C : List Ins) : Tr.laidRow (l.drop i) to C = (l[i]).laid (Tr.laidRow (l.drop (i + 1)) to C).1 (Tr.laidRow (l.drop (i + 1)) to C).2 := by
  rw [List.drop_eq_getElem_cons h, Tr.laidRow]
/-! Where a choice leads. -/
theorem any_app (E : NEnv) : ∀ (l m : List Tr) (a b : Nat), Tr.leadsAny E (l ++ m) a b ↔ Tr.leadsAny E l a b ∨ Tr.leadsAny E m a b
  | [], m, a, b => by rw [List.nil_append, show Tr.leadsAny E [] a b = False by rw [Tr.leadsAny]]; simp
  | t :: l, m, a, b => by rw [List.cons_append, Tr.leadsAny, Tr.leadsAny, any_app E l m, or_assoc]
theorem tog6_own (f : Int → Int) (E : NEnv) : ∀ (us : List Tr), us ≠ [] → ∀ a b, ((togF 6 us).ownT f).leads E a b ↔ Tr.leadsAny E (Tr.ownsT f us) a b
  | [], h, _, _ => absurd rfl h
  | [t], _, a, b => by
    rw [Tr.ownsT, Tr.ownsT, Tr.leadsAny, Tr.leadsAny, or_false]
    exact Iff.rfl
  | t :: u :: l, _, a, b => by
    show ((trN 6 (t :: u :: l)).ownT f).leads E a b ↔ _
    unfold trN
    rw [Tr.ownT, if_neg (by decide), Tr.leads, if_neg (by decide), if_neg (by decide), if_pos rfl]
theorem alt_own (f : Int → Int) (E : NEnv) {us bs : List Tr} (hu : us ≠ []) (hb : bs ≠ []) (a b : Nat) : ((trN 6 (us ++ bs)).ownT f).leads E a b ↔ ((togF 6 us).ownT f).leads E a b ∨ ((togF 6 bs).ownT f).leads E a b := by
  rw [tog6_own f E us hu, tog6_own f E bs hb, ← any_app, ← ownsT_app]
  unfold trN
  rw [Tr.ownT, if_neg (by decide), Tr.leads, if_neg (by decide), if_neg (by decide), if_pos rfl]
/-! A text of single characters is ready as it is. -/
end Go.Proofs.YtdfacbcenogplaaDoor

namespace Go.Proofs.YtdfacbcenogplaaDoor

def Pre (f : Nat → List Ins → Nat × List Ins) : Prop := ∀ u C i, i < C.length → (f u C).2[i]? = C[i]?
theorem Pre.iter {f : Nat → List Ins → Nat × List Ins} (h : Pre f) (hg : LenGe f) : ∀ k, Pre (iterL f k)
  | 0 => fun _ _ _ _ => rfl
  | k + 1 => fun u C i hi => by
    rw [iterL]
    exact (Pre.iter h hg k _ _ i (Nat.lt_of_lt_of_le hi (hg u C))).trans (h u C i hi)
theorem Pre.opt {f : Nat → List Ins → Nat × List Ins} (h : Pre f) (hg : LenGe f) (out : Nat) : Pre (optL f out) := fun u C i hi => by
  unfold optL
  rw [List.getElem?_append_left (Nat.lt_of_lt_of_le hi (hg u C))]
  exact h u C i hi
theorem Pre.star {f : Nat → List Ins → Nat × List Ins} (h : Pre f) : Pre (starL f) := fun u C i hi => by
  unfold starL
  rw [List.getElem?_set_ne (by omega)]
  rw [h C.length (C ++ [insAlt []]) i (by simp; omega), List.getElem?_append_left hi]
theorem Pre.rep {f : Nat → List Ins → Nat × List Ins} (h : Pre f) (hg : LenGe f) (lo hi : Int) : Pre (repL f lo hi) := fun u C i hi' => by
  unfold repL
  have h1 : ∀ x : Nat × List Ins, C.length ≤ x.2.length → x.2[i]? = C[i]? → (iterL f lo.toNat (iterL (optL f u) (hi - lo).toNat x.1 x.2).1 (iterL (optL f u) (hi - lo).toNat x.1 x.2).2).2[i]? = C[i]? := fun x hx he => by
    rw [h.iter hg _ _ _ i (Nat.lt_of_lt_of_le hi' (Nat.le_trans hx ((hg.opt u).iter _ _ _))), (h.opt hg u).iter (hg.opt u) _ _ _ i (Nat.lt_of_lt_of_le hi' hx)]
    exact he
  split
  · exact h1 _ (hg.star u C) (h.star u C i hi')
  · exact h1 (u, C) (Nat.le_refl _) rfl
mutual
theorem laid_pre : ∀ t : Tr, Pre (fun u C => t.laid u C)
  | .mk kind code neg set lo hi kids => fun u C i h => by
    show (Tr.laid _ u C).2[i]? = _
    rw [Tr.laid]
    by_cases k1 : kind = 1
    · rw [if_pos k1]
    · rw [if_neg k1]
      by_cases k5 : kind = 5
      · rw [if_pos k5]; exact laidRow_pre kids u C i h
      · rw [if_neg k5]
        by_cases k6 : kind = 6
        · rw [if_pos k6]
          show ((Tr.laidAny kids u C).2 ++ _)[i]? = _
          rw [List.getElem?_append_left (Nat.lt_of_lt_of_le h (laidAny_ge kids u C))]
          exact laidAny_pre kids u C i h
        · rw [if_neg k6]
          by_cases k7 : kind = 7
          · rw [if_pos k7]; exact (laidHead_pre kids).rep (laidHead_ge kids) lo hi u C i h
          · rw [if_neg k7]
            show (C ++ _)[i]? = _
            rw [List.getElem?_append_left h]
theorem laidRow_pre : ∀ (l : List Tr) (u : Nat) (C : List Ins) (i : Nat), i < C.length → (Tr.laidRow l u C).2[i]? = C[i]?
  | [], _, _, _, _ => by rw [Tr.laidRow]
  | t :: l, u, C, i, h => by
    rw [Tr.laidRow]
    exact (laid_pre t _ _ i (Nat.lt_of_lt_of_le h (laidRow_ge l u C))).trans (laidRow_pre l u C i h)
theorem laidAny_pre : ∀ (l : List Tr) (u : Nat) (C : List Ins) (i : Nat), i < C.length → (Tr.laidAny l u C).2[i]? = C[i]?
  | [], _, _, _, _ => by rw [Tr.laidAny]
  | t :: l, u, C, i, h => by
    rw [Tr.laidAny]
    exact (laidAny_pre l _ _ i (Nat.lt_of_lt_of_le h (laid_ge t u C))).trans (laid_pre t u C i h)
theorem laidHead_pre : ∀ l : List Tr, Pre (fun x D => Tr.laidHead l x D)
  | [] => fun u C i h => by
    show (Tr.laidHead [] u C).2[i]? = _
    rw [Tr.laidHead]
  | t :: l => fun u C i h => by
    show (Tr.laidHead (t :: l) u C).2[i]? = _
    rw [Tr.laidHead]; exact laid_pre t u C i h
end
theorem iterL_snoc (f : Nat → List Ins → Nat × List Ins) : ∀ (k u : Nat) (C : List Ins), iterL f (k + 1) u C = f (iterL f k u C).1 (iterL f k u C).2
  | 0, _, _ => rfl
  | k + 1, u, C => by
    rw [iterL, iterL_snoc f k, iterL]
end Go.Proofs.YtdfacbcenogplaaDoor

namespace Go.Proofs.YtdfacbcenogplaaDoor
open Go.RowKit Go.Lib

/-- Block g is this row of cells. -/
structure Blk (W : World) (g : Nat) (cs : Array Value) (t : TypeId) : Prop where
  row : W.heap[g]? = some (.cells cs t (0, 0))
theorem Blk.lt {W : World} {g : Nat} {cs : Array Value} {t : TypeId} (h : Blk W g cs t) : g < W.heap.size := (Array.getElem?_eq_some_iff.1 h.row).1
theorem Blk.cell {W : World} {g : Nat} {cs : Array Value} {t : TypeId} (h : Blk W g cs t) (j : Nat) : W.cell? ⟨g, j, none⟩ = cs[j]? := cell_of_row W _ j _ _ _ h.row
theorem Blk.fro {W : World} {g : Nat} {cs : Array Value} {t : TypeId} (h : Blk W g cs t) (j : Nat) : W.frozen? ⟨g, j, none⟩ = false := frozen_of_row W _ j _ _ h.row
theorem Blk.below {W W' : World} {g B : Nat} {cs : Array Value} {t : TypeId} (h : Blk W g cs t) (hb : Below B W W') (hg : g < B) : Blk W' g cs t := ⟨(hb.block g hg).trans h.row⟩
theorem Blk.new (w : World) (cs : Array Value) (t : TypeId) : Blk (w.alloc (.cells cs t)) w.heap.size cs t := ⟨heap_alloc_new w _⟩
theorem Blk.alloc {W : World} {g : Nat} {cs : Array Value} {t : TypeId} (h : Blk W g cs t) (o : Obj) : Blk (W.alloc o) g cs t := ⟨(Below.heap_alloc W o g h.lt).trans h.row⟩
theorem Blk.set {W : World} {g j : Nat} {cs : Array Value} {t : TypeId} {u : Value} (h : Blk W g cs t) : Blk (W.setCell ⟨g, j, none⟩ u) g (cs.setIfInBounds j u) t := ⟨heap_setCell_same W g j cs t u h.row⟩
theorem Blk.other {W : World} {g g' j : Nat} {cs : Array Value} {t : TypeId} {u : Value} (h : Blk W g cs t) (hne : g ≠ g') : Blk (W.setCell ⟨g', j, none⟩ u) g cs t := by
  refine ⟨?_⟩
  rw [Below.heap_setCell W ⟨g', j, none⟩ u g hne]
  exact h.row
theorem Blk.grown {W W' : World} {g : Nat} {cs : Array Value} {t : TypeId} {r : Option Nat} (h : Blk W g cs t) (hg : W.grownBy W' r) (hne : some g ≠ r) : Blk W' g cs t := ⟨(hg.block g h.lt hne).trans h.row⟩
/-- Of what was there nothing has turned but blocks a and m. -/
structure Off2 (a m : Nat) (w w' : World) : Prop where
  os : w'.os = w.os
  tape : w'.tape = w.tape
  output : w'.output = w.output
  size : w.heap.size ≤ w'.heap.size
  block : ∀ i, i < w.heap.size → i ≠ a → i ≠ m → w'.heap[i]? = w.heap[i]?
theorem Off2.of_below {a m : Nat} {w w' : World} (h : Below w.heap.size w w') : Off2 a m w w' := ⟨h.os, h.tape, h.output, h.size, fun i hi _ _ => h.block i hi⟩
theorem Off2.trans {a m : Nat} {w w1 w2 : World} (h : Off2 a m w w1) (k : Off2 a m w1 w2) : Off2 a m w w2 := ⟨k.os.trans h.os, k.tape.trans h.tape, k.output.trans h.output, Nat.le_trans h.size k.size, fun i hi h1 h2 => (k.block i (Nat.lt_of_lt_of_le hi h.size) h1 h2).trans (h.block i hi h1 h2)⟩
theorem Off2.turned {a m : Nat} {w w' : World} (ht : w.mapTurned w' m) : Off2 a m w w' := by
  have g := ht.grown
  exact ⟨g.os, g.tape, g.output, g.size, fun i hi _ h2 => g.block i hi (by simp; omega)⟩
theorem Off2.setCell (w : World) (a m j : Nat) (u : Value) : Off2 a m w (w.setCell ⟨a, j, none⟩ u) := by
  have b := (Below.refl 0 w).setCell (p := ⟨a, j, none⟩) (Nat.zero_le _) u
  exact ⟨b.os, b.tape, b.output, b.size, fun i _ h1 _ => Below.heap_setCell w ⟨a, j, none⟩ u i h1⟩
theorem Off2.below {a m B : Nat} {w w' : World} (h : Off2 a m w w') (h1 : B ≤ a) (h2 : B ≤ m) (h3 : B ≤ w.heap.size) : Below B w w' := ⟨h.os, h.tape, h.output, h.size, fun i hi => h.block i (by omega) (by omega) (by omega)⟩
theorem Blk.off2 {a m : Nat} {W W' : World} {g : Nat} {cs : Array Value} {t : TypeId} (h : Blk W g cs t) (o : Off2 a m W W') (h1 : g ≠ a) (h2 : g ≠ m) : Blk W' g cs t := ⟨(o.block g h.lt h1 h2).trans h.row⟩
end Go.Proofs.YtdfacbcenogplaaDoor

namespace Go.Proofs.YtdfacbcenogplaaDoor
open Go.RowKit Go.Lib

/-- Ranges in memory, in blocks of which P holds. -/
def RgIn (w : World) (P : Nat → Prop) (set : List (Int × Int)) (v : Value) : Prop :=
  ∃ A cap, v = .slice A set.length cap ∧ set.length ≤ 100000 ∧ ∀ j r, set[j]? = some r → ∃ g, A = some ⟨g, 0, none⟩ ∧ P g ∧ w.cell? ⟨g, j * 2, none⟩ = some (.int .i64 r.1) ∧ w.cell? ⟨g, j * 2 + 1, none⟩ = some (.int .i64 r.2)
mutual
/-- The seven values that 'rd' tells are this tree's, with all below it in memory, in blocks of which P holds. -/
def Tr.In (w : World) (P : Nat → Prop) : Tr → (Nat → Option Value) → Prop
  | .mk kind code neg set lo hi kids, rd =>
    ∃ sv A cap, rd 0 = some (.int .i64 kind) ∧ rd 1 = some (.int .i64 code) ∧ rd 2 = some (.bool neg) ∧ rd 3 = some sv ∧ rd 4 = some (.int .i64 lo) ∧ rd 5 = some (.int .i64 hi) ∧ rd 6 = some (.slice A kids.length cap) ∧
      kids.length ≤ 100000 ∧ RgIn w P set sv ∧ Tr.Ins w P kids A 0
def Tr.Ins (w : World) (P : Nat → Prop) : List Tr → Option Addr → Nat → Prop
  | [], _, _ => True
  | t :: l, A, o => (∃ g, A = some ⟨g, 0, none⟩ ∧ P g ∧ Tr.In w P t (fun i => w.cell? ⟨g, o + i, none⟩)) ∧ Tr.Ins w P l A (o + 7)
end

theorem RgIn.kept {w w' : World} {P P' : Nat → Prop} {set : List (Int × Int)} {v : Value} (h : RgIn w P set v) (hk : ∀ g, g < w.heap.size → P g → P' g ∧ w'.heap[g]? = w.heap[g]?) : RgIn w' P' set v := by
  obtain ⟨A, cap, rfl, hn, h⟩ := h
  refine ⟨A, cap, rfl, hn, fun j r hj => ?_⟩
  obtain ⟨g, rfl, hp, h0, h1⟩ := h j r hj
  obtain ⟨hp', hg⟩ := hk g (World.block_lt_of_cell? w _ h0) hp
  exact ⟨g, rfl, hp', (World.cell?_of_block (a := ⟨g, j * 2, none⟩) hg).trans h0, (World.cell?_of_block (a := ⟨g, j * 2 + 1, none⟩) hg).trans h1⟩
theorem Tr.In.zero {w : World} {P : Nat → Prop} {t : Tr} {rd : Nat → Option Value} (h : t.In w P rd) : ∃ v, rd 0 = some v := by
  cases t
  rw [Tr.In] at h
  obtain ⟨sv, A, cap, h0, _⟩ := h
  exact ⟨_, h0⟩
mutual
theorem Tr.In.keep {w w' : World} {P P' : Nat → Prop} (hk : ∀ g, g < w.heap.size → P g → P' g ∧ w'.heap[g]? = w.heap[g]?) : ∀ (t : Tr) (rd rd' : Nat → Option Value), (∀ i, i < 7 → rd' i = rd i) → t.In w P rd → t.In w' P' rd'
  | .mk kind code neg set lo hi kids, rd, rd', hr, h => by
    rw [Tr.In] at h ⊢
    obtain ⟨sv, A, cap, h0, h1, h2, h3, h4, h5, h6, hn, hs, hi⟩ := h
    exact ⟨sv, A, cap, (hr 0 (by omega)).trans h0, (hr 1 (by omega)).trans h1, (hr 2 (by omega)).trans h2, (hr 3 (by omega)).trans h3, (hr 4 (by omega)).trans h4, (hr 5 (by omega)).trans h5, (hr 6 (by omega)).trans h6, hn, hs.kept hk, Tr.Ins.keep hk kids A 0 hi⟩
theorem Tr.Ins.keep {w w' : World} {P P' : Nat → Prop} (hk : ∀ g, g < w.heap.size → P g → P' g ∧ w'.heap[g]? = w.heap[g]?) : ∀ (l : List Tr) (A : Option Addr) (o : Nat), Tr.Ins w P l A o → Tr.Ins w' P' l A o
  | [], _, _, _ => by rw [Tr.Ins]; trivial
  | t :: l, A, o, h => by
    rw [Tr.Ins] at h ⊢
    obtain ⟨⟨g, rfl, hp, ht⟩, hl⟩ := h
    obtain ⟨v, hv⟩ := ht.zero
    obtain ⟨hp', hg⟩ := hk g (World.block_lt_of_cell? w _ hv) hp
    exact ⟨⟨g, rfl, hp', Tr.In.keep hk t _ _ (fun i _ => World.cell?_of_block (a := ⟨g, o + i, none⟩) hg) ht⟩, Tr.Ins.keep hk l _ _ hl⟩
end
theorem Tr.In.kept {w w' : World} {P P' : Nat → Prop} {t : Tr} {rd : Nat → Option Value} (h : t.In w P rd) (hk : ∀ g, g < w.heap.size → P g → P' g ∧ w'.heap[g]? = w.heap[g]?) : t.In w' P' rd := Tr.In.keep hk t rd rd (fun _ _ => rfl) h
theorem Tr.In.congr {w : World} {P : Nat → Prop} {t : Tr} {rd rd' : Nat → Option Value} (h : t.In w P rd) (hr : ∀ i, i < 7 → rd' i = rd i) : t.In w P rd' := Tr.In.keep (fun _ _ hp => ⟨hp, rfl⟩) t rd rd' hr h
theorem Tr.Ins.at {w : World} {P : Nat → Prop} : ∀ {l : List Tr} {A : Option Addr} {o : Nat}, Tr.Ins w P l A o → ∀ (j : Nat) (t : Tr), l[j]? = some t → ∃ g, A = some ⟨g, 0, none⟩ ∧ P g ∧ t.In w P (fun i => w.cell? ⟨g, o + j * 7 + i, none⟩)
  | [], _, _, _, j, t, hj => by simp at hj
  | u :: l, A, o, h, j, t, hj => by
    rw [Tr.Ins] at h
    obtain ⟨h0, h1⟩ := h
    cases j with
    | zero =>
      obtain rfl : u = t := by simpa using hj
      simpa using h0
    | succ j =>
      obtain ⟨g, hA, hp, ht⟩ := Tr.Ins.at h1 j t (by simpa using hj)
      refine ⟨g, hA, hp, ?_⟩
      rw [show o + (j + 1) * 7 = o + 7 + j * 7 by omega]
      exact ht
theorem Tr.Ins.of {w : World} {P : Nat → Prop} : ∀ {l : List Tr} {A : Option Addr} {o : Nat}, (∀ (j : Nat) (t : Tr), l[j]? = some t → ∃ g, A = some ⟨g, 0, none⟩ ∧ P g ∧ t.In w P (fun i => w.cell? ⟨g, o + j * 7 + i, none⟩)) → Tr.Ins w P l A o
  | [], _, _, _ => by rw [Tr.Ins]; trivial
  | u :: l, A, o, h => by
    rw [Tr.Ins]
    refine ⟨by simpa using h 0 u rfl, Tr.Ins.of fun j t hj => ?_⟩
    obtain ⟨g, hA, hp, ht⟩ := h (j + 1) t (by simpa using hj)
    refine ⟨g, hA, hp, ?_⟩
    rw [show o + 7 + j * 7 = o + (j + 1) * 7 by omega]
    exact ht
/-- The values of a list, by places. -/
def rdL (xs : List Value) (o : Nat) : Nat → Option Value := fun i => xs[o + i]?
/-- A tree as seven values. -/
def TrV (w : World) (P : Nat → Prop) (t : Tr) (vs : Array Value) : Prop := vs.size = 7 ∧ t.In w P (fun i => vs[i]?)
theorem TrV.kept {w w' : World} {P P' : Nat → Prop} {t : Tr} {vs : Array Value} (h : TrV w P t vs) (hk : ∀ g, g < w.heap.size → P g → P' g ∧ w'.heap[g]? = w.heap[g]?) : TrV w' P' t vs := ⟨h.1, h.2.kept hk⟩
theorem TrV.open {w : World} {P : Nat → Prop} {kind code : Int} {neg : Bool} {set : List (Int × Int)} {lo hi : Int} {kids : List Tr} {vs : Array Value} (h : TrV w P (.mk kind code neg set lo hi kids) vs) :
    ∃ sv A cap, vs = #[.int .i64 kind, .int .i64 code, .bool neg, sv, .int .i64 lo, .int .i64 hi, .slice A kids.length cap] ∧ kids.length ≤ 100000 ∧ RgIn w P set sv ∧ Tr.Ins w P kids A 0 := by
  obtain ⟨hz, h⟩ := h
  rw [Tr.In] at h
  obtain ⟨sv, A, cap, h0, h1, h2, h3, h4, h5, h6, hn, hs, hi⟩ := h
  refine ⟨sv, A, cap, ?_, hn, hs, hi⟩
  refine Array.ext_getElem? fun i => ?_
  by_cases hi7 : i < 7
  · have : i = 0 ∨ i = 1 ∨ i = 2 ∨ i = 3 ∨ i = 4 ∨ i = 5 ∨ i = 6 := by omega
    rcases this with rfl | rfl | rfl | rfl | rfl | rfl | rfl
    · exact h0
    · exact h1
    · exact h2
    · exact h3
    · exact h4
    · exact h5
    · exact h6
  · rw [Array.getElem?_eq_none (by omega), Array.getElem?_eq_none (by simp; omega)]
theorem TrV.mk {w : World} {P : Nat → Prop} {kind code : Int} {neg : Bool} {set : List (Int × Int)} {lo hi : Int} {kids : List Tr} {sv : Value} {A : Option Addr} {cap : Nat} (hn : kids.length ≤ 100000) (hs : RgIn w P set sv) (hi' : Tr.Ins w P kids A 0) :
    TrV w P (.mk kind code neg set lo hi kids) #[.int .i64 kind, .int .i64 code, .bool neg, sv, .int .i64 lo, .int .i64 hi, .slice A kids.length cap] := by
  refine ⟨rfl, ?_⟩
  rw [Tr.In]
  exact ⟨sv, A, cap, rfl, rfl, rfl, rfl, rfl, rfl, rfl, hn, hs, hi'⟩
theorem RgIn.nil (w : World) (P : Nat → Prop) (A : Option Addr) (cap : Nat) : RgIn w P [] (.slice A 0 cap) := ⟨A, cap, rfl, by simp, fun j r h => by simp at h⟩
theorem Tr.Ins.nil (w : World) (P : Nat → Prop) (A : Option Addr) (o : Nat) : Tr.Ins w P [] A o := by rw [Tr.Ins]; trivial
/-- A node without kids and set. -/
theorem TrV.leaf (w : World) (P : Nat → Prop) (kind code : Int) (neg : Bool) (lo hi : Int) : TrV w P (.mk kind code neg [] lo hi []) #[.int .i64 kind, .int .i64 code, .bool neg, .slice none 0 0, .int .i64 lo, .int .i64 hi, .slice none 0 0] :=
  TrV.mk (by simp) (RgIn.nil w P none 0) (Tr.Ins.nil w P none 0)

/-- The nodes that have been read so far: a row of its own, whose trees lie aside of it. -/
def Kds (w : World) (n : Nat) (v : Value) (ts : List Tr) : Prop :=
  ∃ xs, w.ownsRow n 58 7 v ts.length xs ∧ ∀ (j : Nat) (t : Tr), ts[j]? = some t → t.In w (fun g => n ≤ g ∧ some g ≠ v.ownBlock) (rdL xs (j * 7))
theorem Kds.nil (w : World) (n : Nat) : Kds w n (.slice none 0 0) [] := ⟨[], World.ownsRow_nil _ _ _ _, fun j t h => by simp at h⟩
theorem Kds.slice {w : World} {n : Nat} {v : Value} {ts : List Tr} (h : Kds w n v ts) : ∃ A cap, v = .slice A ts.length cap := by
  obtain ⟨xs, ⟨_, h⟩, _⟩ := h
  rcases h with ⟨rfl, h0⟩ | ⟨g, cap, cur, rfl, _⟩
  · exact ⟨none, 0, by rw [h0]⟩
  · exact ⟨_, _, rfl⟩
theorem Kds.ins {w : World} {n : Nat} {A : Option Addr} {cap : Nat} {ts : List Tr} (h : Kds w n (.slice A ts.length cap) ts) : Tr.Ins w (fun g => n ≤ g) ts A 0 := by
  obtain ⟨xs, ho, hx⟩ := h
  refine Tr.Ins.of fun j t hj => ?_
  have hjl : j < ts.length := (List.getElem?_eq_some_iff.1 hj).1
  have hlen := ho.1
  rcases ho.2 with ⟨e, h0⟩ | ⟨g, cap', cur, e, hg, _⟩
  · omega
  · injection e with e1 e2 e3
    subst e1
    refine ⟨g, rfl, hg, ?_⟩
    refine ((hx j t hj).kept (fun g _ hp => ⟨hp.1, rfl⟩)).congr fun i hi => ?_
    have hb : j * 7 + i < xs.length := by omega
    rw [rdL, List.getElem?_eq_getElem hb]
    have := ho.cells rfl (j * 7 + i) _ (List.getElem?_eq_getElem hb)
    rw [Addr.add_lit] at this
    simpa using this
theorem Kds.kept {w w' : World} {n : Nat} {v : Value} {ts : List Tr} (h : Kds w n v ts) (hk : ∀ g, g < w.heap.size → n ≤ g → w'.heap[g]? = w.heap[g]?) : Kds w' n v ts := by
  obtain ⟨xs, ho, hx⟩ := h
  refine ⟨xs, ⟨ho.1, ?_⟩, fun j t hj => (hx j t hj).kept (fun g hg hp => ⟨hp, hk g hg hp.1⟩)⟩
  rcases ho.2 with h0 | ⟨g, cap, cur, e, hg, hr, hz⟩
  · exact .inl h0
  · exact .inr ⟨g, cap, cur, e, hg, (hk g (Array.getElem?_eq_some_iff.1 hr).1 hg).trans hr, hz⟩
end Go.Proofs.YtdfacbcenogplaaDoor

namespace Go.Proofs.YtdfacbcenogplaaDoor
open Go.RowKit Go.Lib

/-- Is it a letter, a digit or a low line? -/
def wordB (c : Nat) : Bool := decide ((48 ≤ c ∧ c ≤ 57) ∨ (65 ≤ c ∧ c ≤ 90) ∨ (97 ≤ c ∧ c ≤ 122) ∨ c = 95)
theorem wordly_any (c : Nat) (w : World) : Calls Tryd.prog 110 #[.int .u8 (c : Int)] w fun e w' => e = .returned (.bool (wordB c)) ∧ w' = w := by
  by_cases h1 : (48 : Int) ≤ (c : Int)
  all_goals by_cases h2 : (c : Int) ≤ 57
  all_goals by_cases h3 : (65 : Int) ≤ (c : Int)
  all_goals by_cases h4 : (c : Int) ≤ 90
  all_goals by_cases h5 : (97 : Int) ≤ (c : Int)
  all_goals by_cases h6 : (c : Int) ≤ 122
  all_goals by_cases h7 : (c : Int) = 95
  all_goals first
    | (exfalso; omega)
    | (have hv : wordB c = true := decide_eq_true (by omega)
       rw [hv]
       go_enter Tryd.func110, Tryd.ntmps110
       go_wp2_with fail
       go_ret
       exact ⟨rfl, rfl⟩)
    | (have hv : wordB c = false := decide_eq_false (by omega)
       have h8 : ((c : Int) == 95) = false := by simpa using h7
       rw [hv]
       go_enter Tryd.func110, Tryd.ntmps110
       go_wp2_with fail
       go_ret
       exact ⟨rfl, rfl⟩)
/-- Of the two bytes beside a place: are they of words? -/
def aheadB (s : ByteArray) (p : Nat) : Bool := decide (0 < p) && wordB (s.get! (p - 1)).toNat
def behindB (s : ByteArray) (p : Nat) : Bool := decide (p < s.size) && wordB (s.get! p).toNat
/-- Is a condition met? -/
def holdF (s : ByteArray) (kind : Int) (p : Nat) : Bool :=
  if kind = 8 then decide (p = 0) else if kind = 9 then decide (p = s.size) else if kind = 10 then aheadB s p != behindB s p else if kind = 11 then aheadB s p == behindB s p else if kind = 12 then behindB s p && !aheadB s p else aheadB s p && !behindB s p
theorem nsize_beq {s : ByteArray} {i : Nat} : ((i : Int) == (s.size : Int)) = decide (i = s.size) := by
  rw [Bool.eq_iff_iff, beq_iff_eq, decide_eq_true_eq]
  omega
set_option maxRecDepth 100000 in
set_option maxHeartbeats 8000000 in
theorem holds_any {W : World} {R p : Nat} {s : ByteArray} (c1 : W.cell? ⟨R, 1, none⟩ = some (.string s)) (c2 : W.cell? ⟨R, 2, none⟩ = some (.int .i64 (p : Int))) (hp : p ≤ s.size) (hs : s.size ≤ maxLen) (kind : Int) :
    Calls Tryd.prog 86 #[.pointer (some ⟨R, 0, none⟩), .int .i64 kind] W fun e w' => e = .returned (.bool (holdF s kind p)) ∧ Below W.heap.size W w' := by
  have CW := Lib.hid (fun c W => wordly_any c W)
  rcases Nat.eq_zero_or_pos p with hp0 | hp0
  · rcases Nat.lt_or_ge p s.size with hp1 | hp1
    · obtain ⟨z1, hz1⟩ : ∃ z, (s[p]'(by omega)).toNat = z := ⟨_, rfl⟩
      have hz1' : (s.get! p).toNat = z1 := by rw [← get!_lt s p (by omega)]; exact hz1
      have hA : aheadB s p = false := by unfold aheadB; rw [decide_eq_false (by omega)]; rfl
      have hBh : behindB s p = wordB z1 := by unfold behindB; rw [decide_eq_true hp1, hz1']; rfl
      have d0 : decide ((0 : Int) < (p : Int)) = false := decide_eq_false (by omega)
      have d0' : decide (0 < p) = false := decide_eq_false (by omega)
      subst hp0
      have c2' : W.cell? ⟨R, 2, none⟩ = some (.int .i64 0) := c2
      have q5 : (0 : Int) < (s.size : Int) := by omega
      have hzj : ((s[0]'hp1).toNat : Int) = (z1 : Int) := by omega
      have d1 : decide ((0 : Int) < (s.size : Int)) = true := decide_eq_true q5
      have d1' : decide (0 < s.size) = true := decide_eq_true hp1
      clear c2 d0 d0'
      clear hz1 hz1'
      unfold holdF
      rw [hA, hBh]
      clear hA hBh
      by_cases k8 : kind = 8
      · subst k8
        simp only [if_pos, Int.reduceEq, if_false]
        go_enter Tryd.func86, Tryd.ntmps86
        go_wp2_with fail
        go_quiet ((go_at_call 110; exact Calls.quiet_of_same (CW.out _ _)))
        have x1 : (W.drewN nq).cell? ⟨R, 1, none⟩ = some (.string s) := c1
        have x2 : (W.drewN nq).cell? ⟨R, 2, none⟩ = some (.int .i64 0) := c2'
        have HB := Lib.hid (⟨rfl, rfl, rfl, Nat.le_refl _, fun _ _ => rfl⟩ : Below W.heap.size W (W.drewN nq))
        obtain ⟨W2, hW2⟩ : ∃ W2, W.drewN nq = W2 := ⟨_, rfl⟩
        rw [hW2] at x1 x2 HB ⊢
        clear c1 c2' hW2
        go_wp2_with fail
        go_quiet ((go_at_call 110; exact Calls.quiet_of_same (CW.out _ _)))
        go_wp2_with fail
        go_ret
        exact ⟨by first | rfl | simp, ⟨HB.out.os, HB.out.tape, HB.out.output, HB.out.size, HB.out.block⟩⟩
      by_cases k9 : kind = 9
      · subst k9
        simp only [if_pos, Int.reduceEq, if_false]
        have e9 : (((0 : Nat) : Int) == (s.size : Int)) = decide (0 = s.size) := nsize_beq
        have e9' : ((0 : Int) == (s.size : Int)) = decide (0 = s.size) := nsize_beq (i := 0)
        go_enter Tryd.func86, Tryd.ntmps86
        go_wp2_with fail
        go_quiet ((go_at_call 110; exact Calls.quiet_of_same (CW.out _ _)))
        have x1 : (W.drewN nq).cell? ⟨R, 1, none⟩ = some (.string s) := c1
        have x2 : (W.drewN nq).cell? ⟨R, 2, none⟩ = some (.int .i64 0) := c2'
        have HB := Lib.hid (⟨rfl, rfl, rfl, Nat.le_refl _, fun _ _ => rfl⟩ : Below W.heap.size W (W.drewN nq))
        obtain ⟨W2, hW2⟩ : ∃ W2, W.drewN nq = W2 := ⟨_, rfl⟩
        rw [hW2] at x1 x2 HB ⊢
        clear c1 c2' hW2
        go_wp2_with fail
        go_quiet ((go_at_call 110; exact Calls.quiet_of_same (CW.out _ _)))
        go_wp2_with fail
        go_quiet (fail)
        go_wp2_with fail
        go_ret
        exact ⟨by first | rfl | simp, ⟨HB.out.os, HB.out.tape, HB.out.output, HB.out.size, HB.out.block⟩⟩
      by_cases k10 : kind = 10
      · subst k10
        simp only [if_pos, Int.reduceEq, if_false]
        go_enter Tryd.func86, Tryd.ntmps86
        go_wp2_with fail
        go_quiet ((go_at_call 110; exact Calls.quiet_of_same (CW.out _ _)))
        have x1 : (W.drewN nq).cell? ⟨R, 1, none⟩ = some (.string s) := c1
        have x2 : (W.drewN nq).cell? ⟨R, 2, none⟩ = some (.int .i64 0) := c2'
        have HB := Lib.hid (⟨rfl, rfl, rfl, Nat.le_refl _, fun _ _ => rfl⟩ : Below W.heap.size W (W.drewN nq))
        obtain ⟨W2, hW2⟩ : ∃ W2, W.drewN nq = W2 := ⟨_, rfl⟩
        rw [hW2] at x1 x2 HB ⊢
        clear c1 c2' hW2
        go_wp2_with fail
        go_quiet ((go_at_call 110; exact Calls.quiet_of_same (CW.out _ _)))
        go_wp2_with fail
        go_ret
        exact ⟨by first | rfl | simp, ⟨HB.out.os, HB.out.tape, HB.out.output, HB.out.size, HB.out.block⟩⟩
      by_cases k11 : kind = 11
      · subst k11
        simp only [if_pos, Int.reduceEq, if_false]
        go_enter Tryd.func86, Tryd.ntmps86
        go_wp2_with fail
        go_quiet ((go_at_call 110; exact Calls.quiet_of_same (CW.out _ _)))
        have x1 : (W.drewN nq).cell? ⟨R, 1, none⟩ = some (.string s) := c1
        have x2 : (W.drewN nq).cell? ⟨R, 2, none⟩ = some (.int .i64 0) := c2'
        have HB := Lib.hid (⟨rfl, rfl, rfl, Nat.le_refl _, fun _ _ => rfl⟩ : Below W.heap.size W (W.drewN nq))
        obtain ⟨W2, hW2⟩ : ∃ W2, W.drewN nq = W2 := ⟨_, rfl⟩
        rw [hW2] at x1 x2 HB ⊢
        clear c1 c2' hW2
        go_wp2_with fail
        go_quiet ((go_at_call 110; exact Calls.quiet_of_same (CW.out _ _)))
        go_wp2_with fail
        go_ret
        exact ⟨by first | rfl | simp, ⟨HB.out.os, HB.out.tape, HB.out.output, HB.out.size, HB.out.block⟩⟩
      by_cases k12 : kind = 12
      · subst k12
        simp only [if_pos, Int.reduceEq, if_false]
        rcases hb : wordB z1 with _ | _
        all_goals
          go_enter Tryd.func86, Tryd.ntmps86
          go_wp2_with fail
          go_quiet ((go_at_call 110; exact Calls.quiet_of_same (CW.out _ _)))
          have x1 : (W.drewN nq).cell? ⟨R, 1, none⟩ = some (.string s) := c1
          have x2 : (W.drewN nq).cell? ⟨R, 2, none⟩ = some (.int .i64 0) := c2'
          have HB := Lib.hid (⟨rfl, rfl, rfl, Nat.le_refl _, fun _ _ => rfl⟩ : Below W.heap.size W (W.drewN nq))
          obtain ⟨W2, hW2⟩ : ∃ W2, W.drewN nq = W2 := ⟨_, rfl⟩
          rw [hW2] at x1 x2 HB ⊢
          clear c1 c2' hW2
          go_wp2_with fail
          go_quiet ((go_at_call 110; exact Calls.quiet_of_same (CW.out _ _)))
          go_wp2_with fail
          go_ret
          exact ⟨by first | rfl | simp, ⟨HB.out.os, HB.out.tape, HB.out.output, HB.out.size, HB.out.block⟩⟩
      rw [if_neg k8, if_neg k9, if_neg k10, if_neg k11, if_neg k12]
      have e8 : (kind == 8) = false := beq_eq_false_iff_ne.2 k8
      have e9 : (kind == 9) = false := beq_eq_false_iff_ne.2 k9
      have e10 : (kind == 10) = false := beq_eq_false_iff_ne.2 k10
      have e11 : (kind == 11) = false := beq_eq_false_iff_ne.2 k11
      have e12 : (kind == 12) = false := beq_eq_false_iff_ne.2 k12
      go_enter Tryd.func86, Tryd.ntmps86
      go_wp2_with fail
      go_quiet ((go_at_call 110; exact Calls.quiet_of_same (CW.out _ _)))
      have x1 : (W.drewN nq).cell? ⟨R, 1, none⟩ = some (.string s) := c1
      have x2 : (W.drewN nq).cell? ⟨R, 2, none⟩ = some (.int .i64 0) := c2'
      have HB := Lib.hid (⟨rfl, rfl, rfl, Nat.le_refl _, fun _ _ => rfl⟩ : Below W.heap.size W (W.drewN nq))
      obtain ⟨W2, hW2⟩ : ∃ W2, W.drewN nq = W2 := ⟨_, rfl⟩
      rw [hW2] at x1 x2 HB ⊢
      clear c1 c2' hW2
      go_wp2_with fail
      go_quiet ((go_at_call 110; exact Calls.quiet_of_same (CW.out _ _)))
      go_wp2_with fail
      go_ret
      exact ⟨by first | rfl | simp, ⟨HB.out.os, HB.out.tape, HB.out.output, HB.out.size, HB.out.block⟩⟩
    · have hA : aheadB s p = false := by unfold aheadB; rw [decide_eq_false (by omega)]; rfl
      have hBh : behindB s p = false := by unfold behindB; rw [decide_eq_false (by omega)]; rfl
      have d0 : decide ((0 : Int) < (p : Int)) = false := decide_eq_false (by omega)
      have d0' : decide (0 < p) = false := decide_eq_false (by omega)
      have d1 : decide ((p : Int) < (s.size : Int)) = false := decide_eq_false (by omega)
      have d1' : decide (p < s.size) = false := decide_eq_false (by omega)
      unfold holdF
      rw [hA, hBh]
      clear hA hBh
      clear hp0
      by_cases k8 : kind = 8
      · subst k8
        simp only [if_pos, Int.reduceEq, if_false]
        have e8 : ((p : Int) == 0) = decide (p = 0) := by rw [Bool.eq_iff_iff, beq_iff_eq, decide_eq_true_eq]; omega
        go_enter Tryd.func86, Tryd.ntmps86
        go_wp2_with fail
        go_quiet ((go_at_call 110; exact Calls.quiet_of_same (CW.out _ _)))
        have x1 : (W.drewN nq).cell? ⟨R, 1, none⟩ = some (.string s) := c1
        have x2 : (W.drewN nq).cell? ⟨R, 2, none⟩ = some (.int .i64 (p : Int)) := c2
        have HB := Lib.hid (⟨rfl, rfl, rfl, Nat.le_refl _, fun _ _ => rfl⟩ : Below W.heap.size W (W.drewN nq))
        obtain ⟨W2, hW2⟩ : ∃ W2, W.drewN nq = W2 := ⟨_, rfl⟩
        rw [hW2] at x1 x2 HB ⊢
        clear c1 c2 hW2
        go_wp2_with fail
        go_quiet ((go_at_call 110; exact Calls.quiet_of_same (CW.out _ _)))
        go_wp2_with fail
        go_ret
        exact ⟨by first | rfl | simp, ⟨HB.out.os, HB.out.tape, HB.out.output, HB.out.size, HB.out.block⟩⟩
      by_cases k9 : kind = 9
      · subst k9
        simp only [if_pos, Int.reduceEq, if_false]
        have e9 : ((p : Int) == (s.size : Int)) = decide (p = s.size) := nsize_beq
        go_enter Tryd.func86, Tryd.ntmps86
        go_wp2_with fail
        go_quiet ((go_at_call 110; exact Calls.quiet_of_same (CW.out _ _)))
        have x1 : (W.drewN nq).cell? ⟨R, 1, none⟩ = some (.string s) := c1
        have x2 : (W.drewN nq).cell? ⟨R, 2, none⟩ = some (.int .i64 (p : Int)) := c2
        have HB := Lib.hid (⟨rfl, rfl, rfl, Nat.le_refl _, fun _ _ => rfl⟩ : Below W.heap.size W (W.drewN nq))
        obtain ⟨W2, hW2⟩ : ∃ W2, W.drewN nq = W2 := ⟨_, rfl⟩
        rw [hW2] at x1 x2 HB ⊢
        clear c1 c2 hW2
        go_wp2_with fail
        go_quiet ((go_at_call 110; exact Calls.quiet_of_same (CW.out _ _)))
        go_wp2_with fail
        go_quiet (fail)
        go_wp2_with fail
        go_ret
        exact ⟨by first | rfl | simp, ⟨HB.out.os, HB.out.tape, HB.out.output, HB.out.size, HB.out.block⟩⟩
      by_cases k10 : kind = 10
      · subst k10
        simp only [if_pos, Int.reduceEq, if_false]
        go_enter Tryd.func86, Tryd.ntmps86
        go_wp2_with fail
        go_quiet ((go_at_call 110; exact Calls.quiet_of_same (CW.out _ _)))
        have x1 : (W.drewN nq).cell? ⟨R, 1, none⟩ = some (.string s) := c1
        have x2 : (W.drewN nq).cell? ⟨R, 2, none⟩ = some (.int .i64 (p : Int)) := c2
        have HB := Lib.hid (⟨rfl, rfl, rfl, Nat.le_refl _, fun _ _ => rfl⟩ : Below W.heap.size W (W.drewN nq))
        obtain ⟨W2, hW2⟩ : ∃ W2, W.drewN nq = W2 := ⟨_, rfl⟩
        rw [hW2] at x1 x2 HB ⊢
        clear c1 c2 hW2
        go_wp2_with fail
        go_quiet ((go_at_call 110; exact Calls.quiet_of_same (CW.out _ _)))
        go_wp2_with fail
        go_ret
        exact ⟨by first | rfl | simp, ⟨HB.out.os, HB.out.tape, HB.out.output, HB.out.size, HB.out.block⟩⟩
      by_cases k11 : kind = 11
      · subst k11
        simp only [if_pos, Int.reduceEq, if_false]
        go_enter Tryd.func86, Tryd.ntmps86
        go_wp2_with fail
        go_quiet ((go_at_call 110; exact Calls.quiet_of_same (CW.out _ _)))
        have x1 : (W.drewN nq).cell? ⟨R, 1, none⟩ = some (.string s) := c1
        have x2 : (W.drewN nq).cell? ⟨R, 2, none⟩ = some (.int .i64 (p : Int)) := c2
        have HB := Lib.hid (⟨rfl, rfl, rfl, Nat.le_refl _, fun _ _ => rfl⟩ : Below W.heap.size W (W.drewN nq))
        obtain ⟨W2, hW2⟩ : ∃ W2, W.drewN nq = W2 := ⟨_, rfl⟩
        rw [hW2] at x1 x2 HB ⊢
        clear c1 c2 hW2
        go_wp2_with fail
        go_quiet ((go_at_call 110; exact Calls.quiet_of_same (CW.out _ _)))
        go_wp2_with fail
        go_ret
        exact ⟨by first | rfl | simp, ⟨HB.out.os, HB.out.tape, HB.out.output, HB.out.size, HB.out.block⟩⟩
      by_cases k12 : kind = 12
      · subst k12
        simp only [if_pos, Int.reduceEq, if_false]
        go_enter Tryd.func86, Tryd.ntmps86
        go_wp2_with fail
        go_quiet ((go_at_call 110; exact Calls.quiet_of_same (CW.out _ _)))
        have x1 : (W.drewN nq).cell? ⟨R, 1, none⟩ = some (.string s) := c1
        have x2 : (W.drewN nq).cell? ⟨R, 2, none⟩ = some (.int .i64 (p : Int)) := c2
        have HB := Lib.hid (⟨rfl, rfl, rfl, Nat.le_refl _, fun _ _ => rfl⟩ : Below W.heap.size W (W.drewN nq))
        obtain ⟨W2, hW2⟩ : ∃ W2, W.drewN nq = W2 := ⟨_, rfl⟩
        rw [hW2] at x1 x2 HB ⊢
        clear c1 c2 hW2
        go_wp2_with fail
        go_quiet ((go_at_call 110; exact Calls.quiet_of_same (CW.out _ _)))
        go_wp2_with fail
        go_ret
        exact ⟨by first | rfl | simp, ⟨HB.out.os, HB.out.tape, HB.out.output, HB.out.size, HB.out.block⟩⟩
      rw [if_neg k8, if_neg k9, if_neg k10, if_neg k11, if_neg k12]
      have e8 : (kind == 8) = false := beq_eq_false_iff_ne.2 k8
      have e9 : (kind == 9) = false := beq_eq_false_iff_ne.2 k9
      have e10 : (kind == 10) = false := beq_eq_false_iff_ne.2 k10
      have e11 : (kind == 11) = false := beq_eq_false_iff_ne.2 k11
      have e12 : (kind == 12) = false := beq_eq_false_iff_ne.2 k12
      go_enter Tryd.func86, Tryd.ntmps86
      go_wp2_with fail
      go_quiet ((go_at_call 110; exact Calls.quiet_of_same (CW.out _ _)))
      have x1 : (W.drewN nq).cell? ⟨R, 1, none⟩ = some (.string s) := c1
      have x2 : (W.drewN nq).cell? ⟨R, 2, none⟩ = some (.int .i64 (p : Int)) := c2
      have HB := Lib.hid (⟨rfl, rfl, rfl, Nat.le_refl _, fun _ _ => rfl⟩ : Below W.heap.size W (W.drewN nq))
      obtain ⟨W2, hW2⟩ : ∃ W2, W.drewN nq = W2 := ⟨_, rfl⟩
      rw [hW2] at x1 x2 HB ⊢
      clear c1 c2 hW2
      go_wp2_with fail
      go_quiet ((go_at_call 110; exact Calls.quiet_of_same (CW.out _ _)))
      go_wp2_with fail
      go_ret
      exact ⟨by first | rfl | simp, ⟨HB.out.os, HB.out.tape, HB.out.output, HB.out.size, HB.out.block⟩⟩
  · rcases Nat.lt_or_ge p s.size with hp1 | hp1
    · obtain ⟨z1, hz1⟩ : ∃ z, (s[p]'(by omega)).toNat = z := ⟨_, rfl⟩
      have hz1' : (s.get! p).toNat = z1 := by rw [← get!_lt s p (by omega)]; exact hz1
      obtain ⟨z0, hz0⟩ : ∃ z, (s[p - 1]'(by omega)).toNat = z := ⟨_, rfl⟩
      have hz0' : (s.get! (p - 1)).toNat = z0 := by rw [← get!_lt s (p - 1) (by omega)]; exact hz0
      have hA : aheadB s p = wordB z0 := by unfold aheadB; rw [decide_eq_true hp0, hz0']; rfl
      have hBh : behindB s p = wordB z1 := by unfold behindB; rw [decide_eq_true hp1, hz1']; rfl
      have q1 : (0 : Int) < (p : Int) := by omega
      obtain ⟨p1, hpp⟩ : ∃ p1, p - 1 = p1 := ⟨_, rfl⟩
      have hw : IntKind.i64.wrap ((p : Int) - 1) = (p1 : Int) := by rw [IntWalk.i64_in _ (by unfold maxLen at hs; omega)]; omega
      have q3 : (p1 : Int) < (s.size : Int) := by omega
      have q4 : (0 : Int) ≤ (p1 : Int) := by omega
      have hp1' : p1 < s.size := by omega
      have hzi : ((s[p1]'hp1').toNat : Int) = (z0 : Int) := by subst hpp; omega
      have d0 : decide ((0 : Int) < (p : Int)) = true := decide_eq_true q1
      have d0' : decide (0 < p) = true := decide_eq_true hp0
      have q5 : (p : Int) < (s.size : Int) := by omega
      have q6 : (0 : Int) ≤ (p : Int) := by omega
      have hzj : ((s[p]'hp1).toNat : Int) = (z1 : Int) := by omega
      have d1 : decide ((p : Int) < (s.size : Int)) = true := decide_eq_true q5
      have d1' : decide (p < s.size) = true := decide_eq_true hp1
      clear hz0 hz0' hpp hz1 hz1'
      unfold holdF
      rw [hA, hBh]
      clear hA hBh
      by_cases k8 : kind = 8
      · subst k8
        simp only [if_pos, Int.reduceEq, if_false]
        have e8 : ((p : Int) == 0) = decide (p = 0) := by rw [Bool.eq_iff_iff, beq_iff_eq, decide_eq_true_eq]; omega
        go_enter Tryd.func86, Tryd.ntmps86
        go_wp2_with fail
        go_quiet ((go_at_call 110; exact Calls.quiet_of_same (CW.out _ _)))
        have x1 : (W.drewN nq).cell? ⟨R, 1, none⟩ = some (.string s) := c1
        have x2 : (W.drewN nq).cell? ⟨R, 2, none⟩ = some (.int .i64 (p : Int)) := c2
        have HB := Lib.hid (⟨rfl, rfl, rfl, Nat.le_refl _, fun _ _ => rfl⟩ : Below W.heap.size W (W.drewN nq))
        obtain ⟨W2, hW2⟩ : ∃ W2, W.drewN nq = W2 := ⟨_, rfl⟩
        rw [hW2] at x1 x2 HB ⊢
        clear c1 c2 hW2
        go_wp2_with fail
        go_quiet ((go_at_call 110; exact Calls.quiet_of_same (CW.out _ _)))
        go_wp2_with fail
        go_ret
        exact ⟨by first | rfl | simp, ⟨HB.out.os, HB.out.tape, HB.out.output, HB.out.size, HB.out.block⟩⟩
      by_cases k9 : kind = 9
      · subst k9
        simp only [if_pos, Int.reduceEq, if_false]
        have e9 : ((p : Int) == (s.size : Int)) = decide (p = s.size) := nsize_beq
        go_enter Tryd.func86, Tryd.ntmps86
        go_wp2_with fail
        go_quiet ((go_at_call 110; exact Calls.quiet_of_same (CW.out _ _)))
        have x1 : (W.drewN nq).cell? ⟨R, 1, none⟩ = some (.string s) := c1
        have x2 : (W.drewN nq).cell? ⟨R, 2, none⟩ = some (.int .i64 (p : Int)) := c2
        have HB := Lib.hid (⟨rfl, rfl, rfl, Nat.le_refl _, fun _ _ => rfl⟩ : Below W.heap.size W (W.drewN nq))
        obtain ⟨W2, hW2⟩ : ∃ W2, W.drewN nq = W2 := ⟨_, rfl⟩
        rw [hW2] at x1 x2 HB ⊢
        clear c1 c2 hW2
        go_wp2_with fail
        go_quiet ((go_at_call 110; exact Calls.quiet_of_same (CW.out _ _)))
        go_wp2_with fail
        go_quiet (fail)
        go_wp2_with fail
        go_ret
        exact ⟨by first | rfl | simp, ⟨HB.out.os, HB.out.tape, HB.out.output, HB.out.size, HB.out.block⟩⟩
      by_cases k10 : kind = 10
      · subst k10
        simp only [if_pos, Int.reduceEq, if_false]
        go_enter Tryd.func86, Tryd.ntmps86
        go_wp2_with fail
        go_quiet ((go_at_call 110; exact Calls.quiet_of_same (CW.out _ _)))
        have x1 : (W.drewN nq).cell? ⟨R, 1, none⟩ = some (.string s) := c1
        have x2 : (W.drewN nq).cell? ⟨R, 2, none⟩ = some (.int .i64 (p : Int)) := c2
        have HB := Lib.hid (⟨rfl, rfl, rfl, Nat.le_refl _, fun _ _ => rfl⟩ : Below W.heap.size W (W.drewN nq))
        obtain ⟨W2, hW2⟩ : ∃ W2, W.drewN nq = W2 := ⟨_, rfl⟩
        rw [hW2] at x1 x2 HB ⊢
        clear c1 c2 hW2
        go_wp2_with fail
        go_quiet ((go_at_call 110; exact Calls.quiet_of_same (CW.out _ _)))
        go_wp2_with fail
        go_ret
        exact ⟨by first | rfl | simp, ⟨HB.out.os, HB.out.tape, HB.out.output, HB.out.size, HB.out.block⟩⟩
      by_cases k11 : kind = 11
      · subst k11
        simp only [if_pos, Int.reduceEq, if_false]
        go_enter Tryd.func86, Tryd.ntmps86
        go_wp2_with fail
        go_quiet ((go_at_call 110; exact Calls.quiet_of_same (CW.out _ _)))
        have x1 : (W.drewN nq).cell? ⟨R, 1, none⟩ = some (.string s) := c1
        have x2 : (W.drewN nq).cell? ⟨R, 2, none⟩ = some (.int .i64 (p : Int)) := c2
        have HB := Lib.hid (⟨rfl, rfl, rfl, Nat.le_refl _, fun _ _ => rfl⟩ : Below W.heap.size W (W.drewN nq))
        obtain ⟨W2, hW2⟩ : ∃ W2, W.drewN nq = W2 := ⟨_, rfl⟩
        rw [hW2] at x1 x2 HB ⊢
        clear c1 c2 hW2
        go_wp2_with fail
        go_quiet ((go_at_call 110; exact Calls.quiet_of_same (CW.out _ _)))
        go_wp2_with fail
        go_ret
        exact ⟨by first | rfl | simp, ⟨HB.out.os, HB.out.tape, HB.out.output, HB.out.size, HB.out.block⟩⟩
      by_cases k12 : kind = 12
      · subst k12
        simp only [if_pos, Int.reduceEq, if_false]
        rcases hb : wordB z1 with _ | _
        all_goals
          go_enter Tryd.func86, Tryd.ntmps86
          go_wp2_with fail
          go_quiet ((go_at_call 110; exact Calls.quiet_of_same (CW.out _ _)))
          have x1 : (W.drewN nq).cell? ⟨R, 1, none⟩ = some (.string s) := c1
          have x2 : (W.drewN nq).cell? ⟨R, 2, none⟩ = some (.int .i64 (p : Int)) := c2
          have HB := Lib.hid (⟨rfl, rfl, rfl, Nat.le_refl _, fun _ _ => rfl⟩ : Below W.heap.size W (W.drewN nq))
          obtain ⟨W2, hW2⟩ : ∃ W2, W.drewN nq = W2 := ⟨_, rfl⟩
          rw [hW2] at x1 x2 HB ⊢
          clear c1 c2 hW2
          go_wp2_with fail
          go_quiet ((go_at_call 110; exact Calls.quiet_of_same (CW.out _ _)))
          go_wp2_with fail
          go_ret
          exact ⟨by first | rfl | simp, ⟨HB.out.os, HB.out.tape, HB.out.output, HB.out.size, HB.out.block⟩⟩
      rw [if_neg k8, if_neg k9, if_neg k10, if_neg k11, if_neg k12]
      have e8 : (kind == 8) = false := beq_eq_false_iff_ne.2 k8
      have e9 : (kind == 9) = false := beq_eq_false_iff_ne.2 k9
      have e10 : (kind == 10) = false := beq_eq_false_iff_ne.2 k10
      have e11 : (kind == 11) = false := beq_eq_false_iff_ne.2 k11
      have e12 : (kind == 12) = false := beq_eq_false_iff_ne.2 k12
      rcases hb : wordB z0 with _ | _
      all_goals
        go_enter Tryd.func86, Tryd.ntmps86
        go_wp2_with fail
        go_quiet ((go_at_call 110; exact Calls.quiet_of_same (CW.out _ _)))
        have x1 : (W.drewN nq).cell? ⟨R, 1, none⟩ = some (.string s) := c1
        have x2 : (W.drewN nq).cell? ⟨R, 2, none⟩ = some (.int .i64 (p : Int)) := c2
        have HB := Lib.hid (⟨rfl, rfl, rfl, Nat.le_refl _, fun _ _ => rfl⟩ : Below W.heap.size W (W.drewN nq))
        obtain ⟨W2, hW2⟩ : ∃ W2, W.drewN nq = W2 := ⟨_, rfl⟩
        rw [hW2] at x1 x2 HB ⊢
        clear c1 c2 hW2
        go_wp2_with fail
        go_quiet ((go_at_call 110; exact Calls.quiet_of_same (CW.out _ _)))
        go_wp2_with fail
        go_ret
        exact ⟨by first | rfl | simp, ⟨HB.out.os, HB.out.tape, HB.out.output, HB.out.size, HB.out.block⟩⟩
    · obtain ⟨z0, hz0⟩ : ∃ z, (s[p - 1]'(by omega)).toNat = z := ⟨_, rfl⟩
      have hz0' : (s.get! (p - 1)).toNat = z0 := by rw [← get!_lt s (p - 1) (by omega)]; exact hz0
      have hA : aheadB s p = wordB z0 := by unfold aheadB; rw [decide_eq_true hp0, hz0']; rfl
      have hBh : behindB s p = false := by unfold behindB; rw [decide_eq_false (by omega)]; rfl
      have q1 : (0 : Int) < (p : Int) := by omega
      obtain ⟨p1, hpp⟩ : ∃ p1, p - 1 = p1 := ⟨_, rfl⟩
      have hw : IntKind.i64.wrap ((p : Int) - 1) = (p1 : Int) := by rw [IntWalk.i64_in _ (by unfold maxLen at hs; omega)]; omega
      have q3 : (p1 : Int) < (s.size : Int) := by omega
      have q4 : (0 : Int) ≤ (p1 : Int) := by omega
      have hp1' : p1 < s.size := by omega
      have hzi : ((s[p1]'hp1').toNat : Int) = (z0 : Int) := by subst hpp; omega
      have d0 : decide ((0 : Int) < (p : Int)) = true := decide_eq_true q1
      have d0' : decide (0 < p) = true := decide_eq_true hp0
      have d1 : decide ((p : Int) < (s.size : Int)) = false := decide_eq_false (by omega)
      have d1' : decide (p < s.size) = false := decide_eq_false (by omega)
      clear hz0 hz0' hpp
      unfold holdF
      rw [hA, hBh]
      clear hA hBh
      by_cases k8 : kind = 8
      · subst k8
        simp only [if_pos, Int.reduceEq, if_false]
        have e8 : ((p : Int) == 0) = decide (p = 0) := by rw [Bool.eq_iff_iff, beq_iff_eq, decide_eq_true_eq]; omega
        go_enter Tryd.func86, Tryd.ntmps86
        go_wp2_with fail
        go_quiet ((go_at_call 110; exact Calls.quiet_of_same (CW.out _ _)))
        have x1 : (W.drewN nq).cell? ⟨R, 1, none⟩ = some (.string s) := c1
        have x2 : (W.drewN nq).cell? ⟨R, 2, none⟩ = some (.int .i64 (p : Int)) := c2
        have HB := Lib.hid (⟨rfl, rfl, rfl, Nat.le_refl _, fun _ _ => rfl⟩ : Below W.heap.size W (W.drewN nq))
        obtain ⟨W2, hW2⟩ : ∃ W2, W.drewN nq = W2 := ⟨_, rfl⟩
        rw [hW2] at x1 x2 HB ⊢
        clear c1 c2 hW2
        go_wp2_with fail
        go_quiet ((go_at_call 110; exact Calls.quiet_of_same (CW.out _ _)))
        go_wp2_with fail
        go_ret
        exact ⟨by first | rfl | simp, ⟨HB.out.os, HB.out.tape, HB.out.output, HB.out.size, HB.out.block⟩⟩
      by_cases k9 : kind = 9
      · subst k9
        simp only [if_pos, Int.reduceEq, if_false]
        have e9 : ((p : Int) == (s.size : Int)) = decide (p = s.size) := nsize_beq
        go_enter Tryd.func86, Tryd.ntmps86
        go_wp2_with fail
        go_quiet ((go_at_call 110; exact Calls.quiet_of_same (CW.out _ _)))
        have x1 : (W.drewN nq).cell? ⟨R, 1, none⟩ = some (.string s) := c1
        have x2 : (W.drewN nq).cell? ⟨R, 2, none⟩ = some (.int .i64 (p : Int)) := c2
        have HB := Lib.hid (⟨rfl, rfl, rfl, Nat.le_refl _, fun _ _ => rfl⟩ : Below W.heap.size W (W.drewN nq))
        obtain ⟨W2, hW2⟩ : ∃ W2, W.drewN nq = W2 := ⟨_, rfl⟩
        rw [hW2] at x1 x2 HB ⊢
        clear c1 c2 hW2
        go_wp2_with fail
        go_quiet ((go_at_call 110; exact Calls.quiet_of_same (CW.out _ _)))
        go_wp2_with fail
        go_quiet (fail)
        go_wp2_with fail
        go_ret
        exact ⟨by first | rfl | simp, ⟨HB.out.os, HB.out.tape, HB.out.output, HB.out.size, HB.out.block⟩⟩
      by_cases k10 : kind = 10
      · subst k10
        simp only [if_pos, Int.reduceEq, if_false]
        go_enter Tryd.func86, Tryd.ntmps86
        go_wp2_with fail
        go_quiet ((go_at_call 110; exact Calls.quiet_of_same (CW.out _ _)))
        have x1 : (W.drewN nq).cell? ⟨R, 1, none⟩ = some (.string s) := c1
        have x2 : (W.drewN nq).cell? ⟨R, 2, none⟩ = some (.int .i64 (p : Int)) := c2
        have HB := Lib.hid (⟨rfl, rfl, rfl, Nat.le_refl _, fun _ _ => rfl⟩ : Below W.heap.size W (W.drewN nq))
        obtain ⟨W2, hW2⟩ : ∃ W2, W.drewN nq = W2 := ⟨_, rfl⟩
        rw [hW2] at x1 x2 HB ⊢
        clear c1 c2 hW2
        go_wp2_with fail
        go_quiet ((go_at_call 110; exact Calls.quiet_of_same (CW.out _ _)))
        go_wp2_with fail
        go_ret
        exact ⟨by first | rfl | simp, ⟨HB.out.os, HB.out.tape, HB.out.output, HB.out.size, HB.out.block⟩⟩
      by_cases k11 : kind = 11
      · subst k11
        simp only [if_pos, Int.reduceEq, if_false]
        go_enter Tryd.func86, Tryd.ntmps86
        go_wp2_with fail
        go_quiet ((go_at_call 110; exact Calls.quiet_of_same (CW.out _ _)))
        have x1 : (W.drewN nq).cell? ⟨R, 1, none⟩ = some (.string s) := c1
        have x2 : (W.drewN nq).cell? ⟨R, 2, none⟩ = some (.int .i64 (p : Int)) := c2
        have HB := Lib.hid (⟨rfl, rfl, rfl, Nat.le_refl _, fun _ _ => rfl⟩ : Below W.heap.size W (W.drewN nq))
        obtain ⟨W2, hW2⟩ : ∃ W2, W.drewN nq = W2 := ⟨_, rfl⟩
        rw [hW2] at x1 x2 HB ⊢
        clear c1 c2 hW2
        go_wp2_with fail
        go_quiet ((go_at_call 110; exact Calls.quiet_of_same (CW.out _ _)))
        go_wp2_with fail
        go_ret
        exact ⟨by first | rfl | simp, ⟨HB.out.os, HB.out.tape, HB.out.output, HB.out.size, HB.out.block⟩⟩
      by_cases k12 : kind = 12
      · subst k12
        simp only [if_pos, Int.reduceEq, if_false]
        go_enter Tryd.func86, Tryd.ntmps86
        go_wp2_with fail
        go_quiet ((go_at_call 110; exact Calls.quiet_of_same (CW.out _ _)))
        have x1 : (W.drewN nq).cell? ⟨R, 1, none⟩ = some (.string s) := c1
        have x2 : (W.drewN nq).cell? ⟨R, 2, none⟩ = some (.int .i64 (p : Int)) := c2
        have HB := Lib.hid (⟨rfl, rfl, rfl, Nat.le_refl _, fun _ _ => rfl⟩ : Below W.heap.size W (W.drewN nq))
        obtain ⟨W2, hW2⟩ : ∃ W2, W.drewN nq = W2 := ⟨_, rfl⟩
        rw [hW2] at x1 x2 HB ⊢
        clear c1 c2 hW2
        go_wp2_with fail
        go_quiet ((go_at_call 110; exact Calls.quiet_of_same (CW.out _ _)))
        go_wp2_with fail
        go_ret
        exact ⟨by first | rfl | simp, ⟨HB.out.os, HB.out.tape, HB.out.output, HB.out.size, HB.out.block⟩⟩
      rw [if_neg k8, if_neg k9, if_neg k10, if_neg k11, if_neg k12]
      have e8 : (kind == 8) = false := beq_eq_false_iff_ne.2 k8
      have e9 : (kind == 9) = false := beq_eq_false_iff_ne.2 k9
      have e10 : (kind == 10) = false := beq_eq_false_iff_ne.2 k10
      have e11 : (kind == 11) = false := beq_eq_false_iff_ne.2 k11
      have e12 : (kind == 12) = false := beq_eq_false_iff_ne.2 k12
      rcases hb : wordB z0 with _ | _
      all_goals
        go_enter Tryd.func86, Tryd.ntmps86
        go_wp2_with fail
        go_quiet ((go_at_call 110; exact Calls.quiet_of_same (CW.out _ _)))
        have x1 : (W.drewN nq).cell? ⟨R, 1, none⟩ = some (.string s) := c1
        have x2 : (W.drewN nq).cell? ⟨R, 2, none⟩ = some (.int .i64 (p : Int)) := c2
        have HB := Lib.hid (⟨rfl, rfl, rfl, Nat.le_refl _, fun _ _ => rfl⟩ : Below W.heap.size W (W.drewN nq))
        obtain ⟨W2, hW2⟩ : ∃ W2, W.drewN nq = W2 := ⟨_, rfl⟩
        rw [hW2] at x1 x2 HB ⊢
        clear c1 c2 hW2
        go_wp2_with fail
        go_quiet ((go_at_call 110; exact Calls.quiet_of_same (CW.out _ _)))
        go_wp2_with fail
        go_ret
        exact ⟨by first | rfl | simp, ⟨HB.out.os, HB.out.tape, HB.out.output, HB.out.size, HB.out.block⟩⟩
end Go.Proofs.YtdfacbcenogplaaDoor
