/- Several texts in one (Contracts of layer 10: a program that grows; Plain: ranges put in order and made one where they touch: whatever order ranges with one beginning have, the answer is one; Contracts of layer 9: the parser's smallest steps: ended, stands, take, next, wrong, big; Contracts of layer 9: ranges in a row: sorted by where they begin; Contracts of layer 9: ranges joined; Contracts of layer 9: the classes' codes (printed by tools/gen_codes.py); Contracts of layer 9: numbers and intervals). -/
import Derived.Deep.RegionLaw
import Derived.BigRegion
import Derived.BigQuiet
import Derived.Deep.QuietTactic
import Derived.Deep.RegionHeld3
import Derived.Maps.AppendAt
import Derived.WalkSpells
import Derived.Shelf.Strings.Prefix
import Derived.Shelf.SlSortCmp.WholeK
import Derived.Test.YtdfacbcenogplaaDoorPk1
import Derived.Test.YtdfacbcenogplaaDoorPk2
import Derived.Test.YtdfacbcenogplaaDoorPk3
import Derived.Test.YtdfacbcenogplaaDoorPk4
namespace Go.Proofs.YtdfacbcenogplaaDoor
open Go.RowKit Go.Lib Go.Maps

/-- A block of ranges, or of nodes. -/
def SetB (w : World) (b : Nat) : Prop := ∃ cs t, Blk w b cs t ∧ (t = 143 ∨ t = 58)
/-- An instruction's five values: its set and its ways in blocks of their own types. -/
def InsT (w : World) (D : Nat → Prop) (x : Ins) (vs : List Value) : Prop :=
  ∃ sv wa wc, vs = [.int .i64 x.kind, .int .i64 x.code, .bool x.neg, sv, .slice wa x.ways.length wc] ∧ RgIn w (SetB w) x.set sv ∧ x.ways.length ≤ 100000 ∧
    ∀ (j m : Nat), x.ways[j]? = some m → ∃ h cs, wa = some ⟨h, 0, none⟩ ∧ D h ∧ Blk w h cs 3 ∧ cs[j]? = some (.int .i64 (m : Int))
theorem InsT.kept {w w' : World} {D : Nat → Prop} {x : Ins} {vs : List Value} (h : InsT w D x vs) (hk : ∀ g cs t, Blk w g cs t → t = 143 ∨ t = 58 ∨ t = 3 → w'.heap[g]? = w.heap[g]?) : InsT w' D x vs := by
  obtain ⟨sv, wa, wc, e, hs, hn, hw⟩ := h
  refine ⟨sv, wa, wc, e, hs.kept fun g _ hp => ?_, hn, fun j m hj => ?_⟩
  · obtain ⟨cs, t, hb, ht⟩ := hp
    have := hk g cs _ hb (ht.elim .inl fun q => .inr (.inl q))
    exact ⟨⟨cs, t, ⟨this.trans hb.row⟩, ht⟩, this⟩
  · obtain ⟨g, cs, e, hd, hb, hc⟩ := hw j m hj
    exact ⟨g, cs, e, hd, ⟨(hk g cs _ hb (.inr (.inr rfl))).trans hb.row⟩, hc⟩
/-- A program that is being laid. -/
structure Grow (w : World) (D : Nat → Prop) (B P : Nat) (fold bytes : Bool) (fv : Int) (A : Option Addr) (n c : Nat) (C : List Ins) : Prop where
  blk : Blk w P #[.bool fold, .bool bytes, .slice A n c, .int .i64 fv] 69
  up : B ≤ P
  row : ∃ L : List (List Value), L.length = C.length ∧ w.ownsRow B 91 5 (.slice A n c) C.length L.flatten ∧ ∀ (i : Nat) (x : Ins), C[i]? = some x → ∃ vs, L[i]? = some vs ∧ InsT w D x vs
theorem step_append_nfa {P : Program} {ops : Array Oper} {o : Oper} {a : Act} {w : World} {K : Act → World → Prop} {Q : Exit → Act → World → Prop} {E : Prop}
    (hg : o.guard = none) (d x : Operand) (dT sT : TypeId) (hop : o.op = Op.call { callee := Callee.builtin Builtin.append, args := #[d, x], argTypes := #[dT, sT] })
    (v : Value) (hd : a.eval d = v) (t : Value) (hx : a.eval x = t) (v' : Value) (w' : World) (hrun : (Builtin.append_ #[dT, sT] o.type #[v, t]).run P w = .ok v' w')
    (hK : K (a.put o.dst v') w') : if Region.wanted o (yielded ops a.tmps) = true then Oper.wp P o a w K Q else E := by
  have hw : Region.wanted o (yielded ops a.tmps) = true := by simp [Region.wanted, hg]
  rw [if_pos hw]
  unfold Oper.wp
  simp [execOp, hop, resolve, invoke, builtin, hd, hx, hrun, Result.andThen]
  exact hK
theorem info_instr : (Tryd.prog.info? 91).map (fun i => (i.zero, i.size, i.bytes)) = some (some (.agg #[.int .i64 0, .int .i64 0, .bool false, .slice none 0 0, .slice none 0 0]), 5, 72) := by kernel_rfl
set_option maxRecDepth 100000 in
set_option maxHeartbeats 4000000 in
theorem nadd_any {w : World} {D : Nat → Prop} {B P n c : Nat} {fold bytes : Bool} {fv : Int} {A : Option Addr} {C : List Ins} (h : Grow w D B P fold bytes fv A n c C) (hC : C.length ≤ 1000000000) {x : Ins} {vs : List Value} (hx : InsT w D x vs) :
    Calls Tryd.prog 45 #[.pointer (some ⟨P, 0, none⟩), .agg vs.toArray] w fun e w' => e = .returned (.int .i64 (C.length : Int)) ∧ ∃ A' n' c', Grow w' D B P fold bytes fv A' n' c' (C ++ [x]) ∧ Below B w w' ∧
      (∀ g, g < w.heap.size → g ≠ P → (Value.slice A n c).ownBlock ≠ some g → w'.heap[g]? = w.heap[g]?) ∧ ∀ g, (Value.slice A' n' c').ownBlock = some g → (Value.slice A n c).ownBlock = some g ∨ w.heap.size ≤ g := by
  obtain ⟨sv, wa, wc, rfl, hs, hn, hw⟩ := hx
  have hXT : InsT w D x [.int .i64 x.kind, .int .i64 x.code, .bool x.neg, sv, .slice wa x.ways.length wc] := ⟨sv, wa, wc, rfl, hs, hn, hw⟩
  obtain ⟨L, hL, hO, hI⟩ := h.row
  obtain ⟨sa, sc, hse⟩ : ∃ sa sc, sv = .slice sa x.set.length sc := ⟨_, _, hs.choose_spec.choose_spec.1⟩
  subst hse
  obtain ⟨vs, hvs⟩ : ∃ vs, ([.int .i64 x.kind, .int .i64 x.code, .bool x.neg, .slice sa x.set.length sc, .slice wa x.ways.length wc] : List Value) = vs := ⟨_, rfl⟩
  obtain ⟨i0, hi, hz0, hz1, hz2⟩ := info_parts info_instr
  obtain ⟨bx, hbx⟩ : ∃ bx, (Obj.cells #[.int .i64 x.kind, .int .i64 x.code, .bool x.neg, .slice sa x.set.length sc, .slice wa x.ways.length wc] 91) = bx := ⟨_, rfl⟩
  have hBw : B ≤ w.heap.size := Nat.le_trans h.up (Nat.le_of_lt h.blk.lt)
  obtain ⟨v', w2, hr, hown2, hgrow, _, hloc⟩ := run_append_own_at (P := Tryd.prog) ((w.alloc bx).drew.alloc bx) B 67 67 91 i0 _ 5 72 Tryd.underlying67 hi hz0 hz1 hz2 rfl (by decide) (.slice A n c) C.length L.flatten ((hO.alloc _).drew.alloc _) ⟨w.heap.size + 1, 0, none⟩ 1 1 [.int .i64 x.kind, .int .i64 x.code, .bool x.neg, .slice sa x.set.length sc, .slice wa x.ways.length wc] rfl
    (by
      have := nrow_new ((w.alloc bx).drew) #[.int .i64 x.kind, .int .i64 x.code, .bool x.neg, .slice sa x.set.length sc, .slice wa x.ways.length wc] 91
      rw [hbx] at this
      simpa [World.drew] using this)
    (by simp [Value.oneCell']) (by unfold maxLen; omega) (by omega) (by simp; omega)
  have hne : ∀ (g : Nat) (cs : Array Value) (t : TypeId), Blk w g cs t → t ≠ 91 → (Value.slice A n c).ownBlock ≠ some g := fun g cs t hb ht q => by
    rcases hO.2 with ⟨e, _⟩ | ⟨g', cap, cur, e, _, hr, _⟩
    · rw [e] at q; cases q
    · rw [e] at q
      injection q with q
      have hq := hb.row
      rw [show g = g' from q.symm, hr] at hq
      injection hq with hq
      injection hq with _ hq
      exact ht hq.symm
  have hold : ∀ g, g < w.heap.size → (Value.slice A n c).ownBlock ≠ some g → w2.heap[g]? = w.heap[g]? := fun g hg hn => by
    have h1 := hgrow.block g (by simp; omega) (fun q => hn q.symm)
    have h2 : ((w.alloc bx).drew.alloc bx).heap[g]? = w.heap[g]? := by
      rw [Below.heap_alloc _ bx g (by simp; omega)]
      exact Below.heap_alloc w bx g hg
    exact h1.trans h2
  have hlow : Below B w w2 := (((Below.refl B w).alloc hBw bx).drew.alloc (by simp; omega) bx).grown hgrow (by simp; omega) (fun j hj => by
    rcases hO.2 with ⟨e, _⟩ | ⟨g', cap, cur, e, hb', hr, _⟩
    · rw [e] at hj; cases hj
    · rw [e] at hj; cases hj; exact hb')
  have g2 : Blk w2 P #[.bool fold, .bool bytes, .slice A n c, .int .i64 fv] 69 := ⟨(hold P h.blk.lt (hne _ _ _ h.blk (by decide))).trans h.blk.row⟩
  obtain ⟨A', c', rfl⟩ := own_slice hown2
  have p2 := (h.blk.alloc bx).cell 2
  simp only [List.getElem?_toArray, List.getElem?_cons_succ, List.getElem?_cons_zero] at p2
  have r2 := ((h.blk.alloc bx).alloc bx).cell 2
  simp only [List.getElem?_toArray, List.getElem?_cons_succ, List.getElem?_cons_zero] at r2
  have fr2 := g2.fro 2
  have d2 := g2.cell 2
  simp only [List.getElem?_toArray, List.getElem?_cons_succ, List.getElem?_cons_zero] at d2
  have hX2 := Blk.new w #[.int .i64 x.kind, .int .i64 x.code, .bool x.neg, .slice sa x.set.length sc, .slice wa x.ways.length wc] 91
  rw [hbx] at hX2
  have c0 := hX2.cell 0
  have c1 := hX2.cell 1
  have c2 := hX2.cell 2
  have c3 := hX2.cell 3
  have c4 := hX2.cell 4
  simp only [List.getElem?_toArray, List.getElem?_cons_succ, List.getElem?_cons_zero] at c0 c1 c2 c3 c4
  have HR := Lib.hid hr
  have HB := Lib.hid hbx
  have HO2 := Lib.hid hown2
  have HG := Lib.hid (And.intro hlow (And.intro hold (And.intro hloc g2)))
  have hCl : C.length + 1 ≤ 2000000000 := by omega
  have HH := Lib.hid (And.intro h (And.intro hXT (And.intro hL (And.intro hI hne))))
  clear h hXT hL hI hne hold hlow hloc g2 hr hown2 hgrow hi hz0 hz1 hz2 hX2 hO hs hw hvs
  go_enter Tryd.func45, Tryd.ntmps45
  go_wp2_with fail
  go_region_law (refine step_append_nfa rfl (.tmp 9) (.tmp 11) 67 67 rfl (.slice A n c) (by simp [Act.eval]) (.slice (some ⟨w.heap.size + 1, 0, none⟩) 1 1) (by simp [Act.eval]) _ w2 HR.out ?_)
  all_goals
    go_wp2_with fail
    go_ret
    obtain ⟨h, hXT, hL, hI, hne⟩ := HH.out
    obtain ⟨hlow, hold, hloc, g2⟩ := HG.out
    have hset : ∀ g, g ≠ P → (w2.setCell ⟨P, 2, none⟩ (.slice A' (C.length + 1) c')).heap[g]? = w2.heap[g]? := fun g hg => Below.heap_setCell w2 ⟨P, 2, none⟩ _ g hg
    have hkp : ∀ g cs t, Blk w g cs t → t = 143 ∨ t = 58 ∨ t = 3 → (w2.setCell ⟨P, 2, none⟩ (.slice A' (C.length + 1) c')).heap[g]? = w.heap[g]? := fun g cs t hb ht =>
      (hset g (Blk.apart hb h.blk (by rcases ht with rfl | rfl | rfl <;> decide))).trans (hold g hb.lt (hne g cs t hb (by rcases ht with rfl | rfl | rfl <;> decide)))
    refine ⟨by simp, A', C.length + 1, c', ⟨g2.set, h.up, L ++ [[.int .i64 x.kind, .int .i64 x.code, .bool x.neg, .slice sa x.set.length sc, .slice wa x.ways.length wc]], by simp [hL], ?_, fun i y hy => ?_⟩, hlow.setCell (p := ⟨P, 2, none⟩) h.up _, fun g h1 h3 h4 => (hset g h3).trans (hold g h1 h4), fun g hg => ?_⟩
    · rw [List.flatten_append, List.length_append]
      have := own_set (j := 2) (u := .slice A' (C.length + 1) c') HO2.out g2 (by decide)
      simpa using this
    · by_cases q : i < C.length
      · rw [List.getElem?_append_left q] at hy
        obtain ⟨vs, h1, h3⟩ := hI i y hy
        exact ⟨vs, by rw [List.getElem?_append_left (by rw [hL]; exact q)]; exact h1, h3.kept hkp⟩
      · have hi := (List.getElem?_eq_some_iff.1 hy).1
        have e : i = C.length := by simp at hi; omega
        subst e
        rw [List.getElem?_append_right (Nat.le_refl _), Nat.sub_self] at hy
        simp at hy
        subst hy
        exact ⟨_, by rw [List.getElem?_append_right (by rw [hL]; exact Nat.le_refl _), hL, Nat.sub_self]; rfl, hXT.kept hkp⟩
    · rcases hloc with q | q
      · exact .inl (q ▸ hg)
      · rw [q] at hg
        cases hg
        exact .inr (by simp; omega)
end Go.Proofs.YtdfacbcenogplaaDoor

namespace Go.Proofs.YtdfacbcenogplaaDoor

def cov (l : List (Int × Int)) (x : Int) : Prop := ∃ r ∈ l, r.1 ≤ x ∧ x ≤ r.2
def RxLow (l : List (Int × Int)) : Prop := l.Pairwise fun r q => r.1 ≤ q.1
def Fit (l : List (Int × Int)) : Prop := ∀ r ∈ l, r.1 ≤ r.2
def Rise (l : List (Int × Int)) : Prop := Fit l ∧ l.Pairwise fun r q => r.2 + 1 < q.1

theorem cov_cons {r : Int × Int} {l : List (Int × Int)} {x : Int} : cov (r :: l) x ↔ (r.1 ≤ x ∧ x ≤ r.2) ∨ cov l x := by
  unfold cov
  simp
theorem rise_unique : ∀ {l m : List (Int × Int)}, Rise l → Rise m → (∀ x, cov l x ↔ cov m x) → l = m
  | [], [], _, _, _ => rfl
  | [], r :: m, _, hm, h => by
    have := (h r.1).2 ⟨r, by simp, Int.le_refl _, hm.1 r (by simp)⟩
    obtain ⟨q, hq, _⟩ := this
    simp at hq
  | r :: l, [], hl, _, h => by
    have := (h r.1).1 ⟨r, by simp, Int.le_refl _, hl.1 r (by simp)⟩
    obtain ⟨q, hq, _⟩ := this
    simp at hq
  | r :: l, q :: m, hl, hm, h => by
    obtain ⟨hl1, hl2⟩ := hl
    obtain ⟨hm1, hm2⟩ := hm
    rw [List.pairwise_cons] at hl2 hm2
    have r0 := hl1 r (by simp)
    have q0 := hm1 q (by simp)
    have up : ∀ {a : Int × Int} {k : List (Int × Int)} {x : Int}, (∀ b ∈ k, a.2 + 1 < b.1) → cov k x → a.2 + 1 < x := by
      rintro a k x hk ⟨b, hb, h1, _⟩
      have := hk b hb
      omega
    have e1 : r.1 = q.1 := by
      rcases cov_cons.1 ((h r.1).1 (cov_cons.2 (.inl ⟨Int.le_refl _, r0⟩))) with a | a
      · rcases cov_cons.1 ((h q.1).2 (cov_cons.2 (.inl ⟨Int.le_refl _, q0⟩))) with b | b
        · omega
        · have := up hl2.1 b
          omega
      · have a1 := up hm2.1 a
        rcases cov_cons.1 ((h q.1).2 (cov_cons.2 (.inl ⟨Int.le_refl _, q0⟩))) with b | b
        · omega
        · have := up hl2.1 b
          omega
    have e2 : r.2 = q.2 := by
      rcases Int.lt_trichotomy r.2 q.2 with c | c | c
      · rcases cov_cons.1 ((h (r.2 + 1)).2 (cov_cons.2 (.inl ⟨by omega, by omega⟩))) with b | b
        · omega
        · have := up hl2.1 b
          omega
      · exact c
      · rcases cov_cons.1 ((h (q.2 + 1)).1 (cov_cons.2 (.inl ⟨by omega, by omega⟩))) with b | b
        · omega
        · have := up hm2.1 b
          omega
    obtain rfl : r = q := Prod.ext e1 e2
    rw [rise_unique (l := l) (m := m) ⟨fun x hx => hl1 x (by simp [hx]), hl2.2⟩ ⟨fun x hx => hm1 x (by simp [hx]), hm2.2⟩ fun x => ⟨fun a => by
      have a1 := up hl2.1 a
      rcases cov_cons.1 ((h x).1 (cov_cons.2 (.inr a))) with b | b
      · omega
      · exact b, fun a => by
      have a1 := up hm2.1 a
      rcases cov_cons.1 ((h x).2 (cov_cons.2 (.inr a))) with b | b
      · omega
      · exact b⟩]
theorem mrg_head : ∀ (l : List (Int × Int)) (c : Int × Int), ∃ z k, mrgR c l = (c.1, z) :: k
  | [], c => ⟨c.2, [], rfl⟩
  | r :: l, c => by
    unfold mrgR
    split
    · exact mrg_head l _
    · exact ⟨c.2, _, rfl⟩
theorem mrg_spec : ∀ (l : List (Int × Int)) (c : Int × Int), RxLow (c :: l) → Fit (c :: l) → Rise (mrgR c l) ∧ ∀ x, cov (mrgR c l) x ↔ cov (c :: l) x
  | [], c, _, hf => ⟨⟨hf, by simp [mrgR]⟩, fun x => Iff.rfl⟩
  | r :: l, c, hl, hf => by
    unfold RxLow at hl
    rw [List.pairwise_cons, List.pairwise_cons] at hl
    have c0 := hf c (by simp)
    have r0 := hf r (by simp)
    have cr := hl.1 r (by simp)
    unfold mrgR
    split
    case isTrue ht =>
      obtain ⟨h1, h2⟩ := mrg_spec l (c.1, max c.2 r.2) (by
        unfold RxLow
        rw [List.pairwise_cons]
        exact ⟨fun q hq => hl.1 q (by simp [hq]), hl.2.2⟩) (fun q hq => by
        rcases List.mem_cons.1 hq with rfl | hq
        · simp only
          omega
        · exact hf q (by simp [hq]))
      refine ⟨h1, fun x => ?_⟩
      rw [h2, cov_cons, cov_cons, cov_cons]
      simp only
      by_cases hx : cov l x
      · simp [hx]
      · simp only [hx, or_false]
        omega
    case isFalse ht =>
      obtain ⟨h1, h2⟩ := mrg_spec l r (by unfold RxLow; rw [List.pairwise_cons]; exact hl.2) (fun q hq => hf q (List.mem_cons_of_mem _ hq))
      refine ⟨⟨fun q hq => ?_, ?_⟩, fun x => ?_⟩
      · rcases List.mem_cons.1 hq with rfl | hq
        · exact c0
        · exact h1.1 q hq
      · rw [List.pairwise_cons]
        refine ⟨fun q hq => ?_, h1.2⟩
        obtain ⟨z, k, e⟩ := mrg_head l r
        rw [e] at hq h1
        have h3 := h1.2
        have h4 := h1.1 (r.1, z) (by simp)
        rw [List.pairwise_cons] at h3
        rcases List.mem_cons.1 hq with rfl | hq
        · simp only
          omega
        · have := h3.1 q hq
          simp only at this h4
          omega
      · rw [cov_cons, cov_cons, h2]
theorem ins_perm (r : Int × Int) : ∀ (l : List (Int × Int)), (insR r l).Perm (r :: l)
  | [] => List.Perm.refl _
  | x :: l => by
    unfold insR
    split
    · exact ((ins_perm r l).cons x).trans (List.Perm.swap r x l)
    · exact List.Perm.refl _
theorem ins_low (r : Int × Int) : ∀ (l : List (Int × Int)), RxLow l → RxLow (insR r l)
  | [], _ => by simp [insR, RxLow]
  | x :: l, h => by
    unfold RxLow at h
    rw [List.pairwise_cons] at h
    unfold insR
    split
    case isTrue c =>
      unfold RxLow
      rw [List.pairwise_cons]
      refine ⟨fun q hq => ?_, ins_low r l h.2⟩
      rcases List.mem_cons.1 ((ins_perm r l).mem_iff.1 hq) with rfl | hq
      · exact c
      · exact h.1 q hq
    case isFalse c =>
      unfold RxLow
      rw [List.pairwise_cons, List.pairwise_cons]
      refine ⟨fun q hq => ?_, h⟩
      rcases List.mem_cons.1 hq with rfl | hq
      · omega
      · have := h.1 q hq
        omega
theorem srt_perm : ∀ (l acc : List (Int × Int)), (srtR acc l).Perm (acc ++ l)
  | [], acc => by simp [srtR]
  | r :: l, acc => by
    unfold srtR
    refine (srt_perm l _).trans ?_
    refine ((ins_perm r acc).append_right l).trans ?_
    exact (List.perm_middle (l₁ := acc) (a := r) (l₂ := l)).symm
theorem srt_low : ∀ (l acc : List (Int × Int)), RxLow acc → RxLow (srtR acc l)
  | [], _, h => h
  | r :: l, acc, h => by
    unfold srtR
    exact srt_low l _ (ins_low r acc h)
theorem cov_perm {l m : List (Int × Int)} (h : l.Perm m) (x : Int) : cov l x ↔ cov m x := by
  unfold cov
  simp only [h.mem_iff]
theorem jnH_spec {l : List (Int × Int)} (h : RxLow l) (hf : Fit l) : Rise (jnH l) ∧ ∀ x, cov (jnH l) x ↔ cov l x := by
  cases l with
  | nil => exact ⟨⟨fun r hr => by simp [jnH] at hr, by simp [jnH]⟩, fun x => Iff.rfl⟩
  | cons c l => exact mrg_spec l c h hf
/-- However the ranges are put in order, they are joined to the same. -/
theorem join_any {l d : List (Int × Int)} (hp : d.Perm l) (hd : RxLow d) (hf : Fit l) : jnH d = joinR l := by
  have hfd : Fit d := fun r hr => hf r (hp.mem_iff.1 hr)
  have p2 : (srtR [] l).Perm l := srt_perm l []
  obtain ⟨a1, a2⟩ := jnH_spec hd hfd
  obtain ⟨b1, b2⟩ := jnH_spec (srt_low l [] List.Pairwise.nil) (fun r hr => hf r (p2.mem_iff.1 hr))
  exact rise_unique a1 b1 fun x => (a2 x).trans ((cov_perm (hp.trans p2.symm) x).trans (b2 x).symm)
theorem join_rise {l : List (Int × Int)} (hf : Fit l) : Rise (joinR l) :=
  (jnH_spec (srt_low l [] List.Pairwise.nil) (fun r hr => hf r ((srt_perm l []).mem_iff.1 hr))).1

/-- A round of the loop. -/
def stepJ (all : List (Int × Int)) (r : Int × Int) : List (Int × Int) :=
  match all.getLast? with
  | none => all ++ [r]
  | some c => if r.1 ≤ c.2 + 1 then all.dropLast ++ [(c.1, max c.2 r.2)] else all ++ [r]
theorem fold_mrg : ∀ (l pre : List (Int × Int)) (c : Int × Int), l.foldl stepJ (pre ++ [c]) = pre ++ mrgR c l
  | [], _, _ => rfl
  | r :: l, pre, c => by
    rw [List.foldl_cons, stepJ]
    simp only [List.getLast?_concat, List.dropLast_concat]
    unfold mrgR
    split
    · exact fold_mrg l pre _
    · rw [show pre ++ [c] ++ [r] = (pre ++ [c]) ++ [r] by simp, fold_mrg l (pre ++ [c]) r]
      simp
theorem fold_jn (l : List (Int × Int)) : l.foldl stepJ [] = jnH l := by
  cases l with
  | nil => rfl
  | cons c l => exact fold_mrg l [] c
theorem step_len (all : List (Int × Int)) (r : Int × Int) : (stepJ all r).length ≤ all.length + 1 := by
  unfold stepJ
  split
  · simp
  · split
    · simp only [List.length_append, List.length_dropLast, List.length_cons, List.length_nil]
      omega
    · simp
theorem fold_len : ∀ (l acc : List (Int × Int)), (l.foldl stepJ acc).length ≤ acc.length + l.length
  | [], _ => by simp
  | r :: l, acc => by
    rw [List.foldl_cons]
    have := fold_len l (stepJ acc r)
    have := step_len acc r
    simp only [List.length_cons]
    omega
end Go.Proofs.YtdfacbcenogplaaDoor

namespace Go.Proofs.YtdfacbcenogplaaDoor
open Go.RowKit Go.Lib

/-- The parser's block. -/
def Prs (W : World) (pb : Nat) (s : ByteArray) (b : Bool) (i n : Nat) : Prop := Blk W pb #[.string s, .bool b, .int .i64 (i : Int), .int .i64 (n : Int)] 86
abbrev pbP (pb : Nat) : Value := .pointer (some ⟨pb, 0, none⟩)
theorem Prs.four {W : World} {pb : Nat} {s : ByteArray} {b : Bool} {i n : Nat} (h : Prs W pb s b i n) : W.cell? ⟨pb, 0, none⟩ = some (.string s) ∧ W.cell? ⟨pb, 1, none⟩ = some (.bool b) ∧ W.cell? ⟨pb, 2, none⟩ = some (.int .i64 (i : Int)) ∧ W.cell? ⟨pb, 3, none⟩ = some (.int .i64 (n : Int)) ∧ W.frozen? ⟨pb, 2, none⟩ = false ∧ W.frozen? ⟨pb, 3, none⟩ = false :=
  ⟨Blk.cell h 0, Blk.cell h 1, Blk.cell h 2, Blk.cell h 3, Blk.fro h 2, Blk.fro h 3⟩
theorem Prs.kept {W W' : World} {pb : Nat} {s : ByteArray} {b : Bool} {i n : Nat} (h : Prs W pb s b i n) (hb : Below W.heap.size W W') : Prs W' pb s b i n := Blk.below h hb (Blk.lt h)
theorem Prs.to {W : World} {pb : Nat} {s : ByteArray} {b : Bool} {i n : Nat} (h : Prs W pb s b i n) (j : Nat) : Prs (W.setCell ⟨pb, 2, none⟩ (.int .i64 (j : Int))) pb s b j n := Blk.set h
theorem Prs.open {W : World} {pb : Nat} {s : ByteArray} {b : Bool} {i n : Nat} (h : Prs W pb s b i n) (j : Nat) : Prs (W.setCell ⟨pb, 3, none⟩ (.int .i64 (j : Int))) pb s b i j := Blk.set h
/-- What a step leaves: the parser stands at j, and nothing else has turned. -/
structure Stp (pb : Nat) (s : ByteArray) (b : Bool) (j n : Nat) (W w' : World) : Prop where
  prs : Prs w' pb s b j n
  off : Off2 pb pb W w'
theorem Stp.of {pb : Nat} {s : ByteArray} {b : Bool} {i n : Nat} {W w' : World} (h : Prs W pb s b i n) (hb : Below W.heap.size W w') : Stp pb s b i n W w' := ⟨h.kept hb, Off2.of_below hb⟩
theorem Stp.refl {pb : Nat} {s : ByteArray} {b : Bool} {i n : Nat} {W : World} (h : Prs W pb s b i n) : Stp pb s b i n W W := Stp.of h (Below.refl _ _)
theorem Stp.drewN {pb : Nat} {s : ByteArray} {b : Bool} {i n : Nat} {W : World} (h : Prs W pb s b i n) (k : Nat) : Stp pb s b i n W (W.drewN k) := Stp.of h (below_drewN (Below.refl _ _) k)
theorem Stp.trans {pb : Nat} {s : ByteArray} {b : Bool} {j j' n n' : Nat} {W W1 W2 : World} (h : Stp pb s b j n W W1) (k : Stp pb s b j' n' W1 W2) : Stp pb s b j' n' W W2 := ⟨k.prs, h.off.trans k.off⟩
theorem Stp.to {pb : Nat} {s : ByteArray} {b : Bool} {i n : Nat} {W W1 : World} (h : Stp pb s b i n W W1) (j : Nat) : Stp pb s b j n W (W1.setCell ⟨pb, 2, none⟩ (.int .i64 (j : Int))) := ⟨h.prs.to j, h.off.trans (Off2.setCell W1 pb pb 2 _)⟩
theorem Stp.open {pb : Nat} {s : ByteArray} {b : Bool} {i n : Nat} {W W1 : World} (h : Stp pb s b i n W W1) (j : Nat) : Stp pb s b i j W (W1.setCell ⟨pb, 3, none⟩ (.int .i64 (j : Int))) := ⟨h.prs.open j, h.off.trans (Off2.setCell W1 pb pb 3 _)⟩
theorem Stp.alloc {pb : Nat} {s : ByteArray} {b : Bool} {i n : Nat} {W W1 : World} (h : Stp pb s b i n W W1) (o : Obj) : Stp pb s b i n W (W1.alloc o) := ⟨Blk.alloc h.prs o, h.off.trans (Off2.of_below ((Below.refl _ _).alloc (Nat.le_refl _) o))⟩
theorem Stp.dr {pb : Nat} {s : ByteArray} {b : Bool} {i n : Nat} {W W1 : World} (h : Stp pb s b i n W W1) (k : Nat) : Stp pb s b i n W (W1.drewN k) := h.trans (Stp.drewN h.prs k)
theorem Stp.below {pb : Nat} {s : ByteArray} {b : Bool} {i n : Nat} {W W1 W2 : World} (h : Stp pb s b i n W W1) (hb : Below W1.heap.size W1 W2) : Stp pb s b i n W W2 := h.trans (Stp.of h.prs hb)
theorem tabs_sub {g h n : Nat} {W W' : World} (hT : Utf8Tabs g h W) (hb : Below n W W') (hg : g < n) (hh : h < n) : Utf8Tabs g h W' :=
  ⟨fun j hj => (hb.cell (p := ⟨g, _, none⟩) hg).trans (hT.1 j hj), fun j hj => ⟨(hb.cell (p := ⟨h, _, none⟩) hh).trans (hT.2 j hj).1, (hb.cell (p := ⟨h, _, none⟩) hh).trans (hT.2 j hj).2⟩⟩
/-- What the steps lean on: the library's tables, and a number of its own. -/
structure Env (W : World) (pb : Nat) : Prop where
  tabs : Utf8Tabs 4 5 W
  mx : ∃ m, W.cell? ⟨0, 0, none⟩ = some (.int .i64 m)
  far : 4 < pb ∧ 5 < pb ∧ 0 < pb
theorem Env.kept {W W' : World} {pb : Nat} (h : Env W pb) (hb : Below pb W W') : Env W' pb := by
  obtain ⟨m, hm⟩ := h.mx
  exact ⟨tabs_sub h.tabs hb h.far.1 h.far.2.1, ⟨m, (hb.cell (p := ⟨0, 0, none⟩) h.far.2.2).trans hm⟩, h.far⟩
theorem Env.step {W W' : World} {pb : Nat} {s : ByteArray} {b : Bool} {j n : Nat} (h : Env W pb) (hs : Stp pb s b j n W W') (hp : pb < W.heap.size) : Env W' pb := h.kept (hs.off.below (Nat.le_refl _) (Nat.le_refl _) (Nat.le_of_lt hp))
/-- A panic with a fault. -/
abbrev flt (k : Nat) (e : Int) : Ending := .panicked [{ v := .iface 84 (.agg #[.int .i64 (k : Int), .int .i64 e]), recovered := false }]
/-- What a part of the parser leaves. -/
def RxOut {α : Type} (good : α → Value → World → Prop) (pb : Nat) (s : ByteArray) (b : Bool) (n : Nat) (W : World) (r : Rs α) (e : Ending) (w' : World) : Prop :=
  match r with
  | .ok a k => ∃ v, e = .returned v ∧ good a v w' ∧ Stp pb s b k n W w'
  | .bad k er => e = flt k er ∧ Off2 pb pb W w'

theorem rx_ended_q {W : World} {pb : Nat} {s : ByteArray} {b : Bool} {i n : Nat} (h : Prs W pb s b i n) (p : Bool) (hp : ((i : Int) == (s.size : Int)) = p) :
    Calls Tryd.prog 77 #[pbP pb] W fun e w' => e = .returned (.bool p) ∧ ∃ m, w' = W.drewN m := by
  obtain ⟨h0, _, h2, _⟩ := h.four
  rw [← hp]
  clear h hp
  go_enter Tryd.func77, Tryd.ntmps77
  go_wp2_with fail
  go_quiet (fail)
  go_wp2_with fail
  go_ret
  exact ⟨rfl, _, rfl⟩
theorem rx_ended {W : World} {pb : Nat} {s : ByteArray} {b : Bool} {i n : Nat} (h : Prs W pb s b i n) (p : Bool) (hp : ((i : Int) == (s.size : Int)) = p) :
    Calls Tryd.prog 77 #[pbP pb] W fun e w' => e = .returned (.bool p) ∧ Stp pb s b i n W w' :=
  (rx_ended_q h p hp).mono fun _ _ ⟨he, m, hm⟩ => ⟨he, by rw [hm]; exact Stp.drewN h m⟩
theorem rx_stands_q {W : World} {pb : Nat} {s : ByteArray} {b : Bool} {i n : Nat} (h : Prs W pb s b i n) (hi : i ≤ s.size) (t : ByteArray) (p : Bool) (hp : hasPrefix (s.data.toList.drop i) t.data.toList = p) :
    Calls Tryd.prog 126 #[pbP pb, .string t] W fun e w' => e = .returned (.bool p) ∧ ∃ m, w' = W.drewN m := by
  obtain ⟨h0, _, h2, _⟩ := h.four
  have cP := fun W => Tryd.strings_HasPrefix (s.extract i s.size) t W
  rw [extract_to_end, hp] at cP
  have CP := Lib.hid cP
  clear h cP hp
  go_enter Tryd.func126, Tryd.ntmps126
  go_wp2_with fail
  go_quiet ((go_at_call 132; exact Calls.quiet_of_same (CP.out _)))
  go_wp2_with fail
  go_ret
  exact ⟨rfl, _, rfl⟩
theorem rx_stands {W : World} {pb : Nat} {s : ByteArray} {b : Bool} {i n : Nat} (h : Prs W pb s b i n) (hi : i ≤ s.size) (t : ByteArray) (p : Bool) (hp : hasPrefix (s.data.toList.drop i) t.data.toList = p) :
    Calls Tryd.prog 126 #[pbP pb, .string t] W fun e w' => e = .returned (.bool p) ∧ Stp pb s b i n W w' :=
  (rx_stands_q h hi t p hp).mono fun _ _ ⟨he, m, hm⟩ => ⟨he, by rw [hm]; exact Stp.drewN h m⟩
theorem rx_wrong (pb a : Nat) (W : World) : Calls Tryd.prog 78 #[pbP pb, .int .i64 (a : Int)] W fun e w' => e = flt a 90 ∧ W = w' := by
  go_enter Tryd.func78, Tryd.ntmps78
  go_wp2_with fail
  exact ⟨rfl, rfl, rfl⟩
theorem rx_big (pb a : Nat) (W : World) : Calls Tryd.prog 80 #[pbP pb, .int .i64 (a : Int)] W fun e w' => e = flt a 91 ∧ W = w' := by
  go_enter Tryd.func80, Tryd.ntmps80
  go_wp2_with fail
  exact ⟨rfl, rfl, rfl⟩
/-- 'take': gone past, if it stands there. -/
theorem rx_take {W : World} {pb : Nat} {s : ByteArray} {b : Bool} {i n : Nat} (h : Prs W pb s b i n) (hi : i ≤ s.size) (hs : s.size ≤ 1024) (t : ByteArray) (p : Bool) (hp : hasPrefix (s.data.toList.drop i) t.data.toList = p) (ht : t.size ≤ 2) :
    Calls Tryd.prog 103 #[pbP pb, .string t] W fun e w' => e = .returned (.bool p) ∧ Stp pb s b (if p then i + t.size else i) n W w' := by
  have CS := Lib.hid (rx_stands h hi t p hp)
  clear h hp
  obtain ⟨k, hk⟩ : ∃ k, i + t.size = k := ⟨_, rfl⟩
  have hk2 : (i : Int) + (t.size : Int) = (k : Int) := by omega
  have hw : IntKind.i64.wrap (k : Int) = (k : Int) := by simp [IntKind.wrap, IntKind.bits, IntKind.signed]; omega
  rw [hk]
  cases p
  · go_enter Tryd.func103, Tryd.ntmps103
    go_wp2_with (go_at_call 126; refine CS.out.mono ?_; rintro e w' ⟨rfl, hS⟩; have HS := Lib.hid hS)
    go_ret
    exact ⟨rfl, HS.out⟩
  · go_enter Tryd.func103, Tryd.ntmps103
    go_wp2_with (go_at_call 126; refine CS.out.mono ?_; rintro e w' ⟨rfl, hS⟩; have HS := Lib.hid hS; obtain ⟨_, _, q2, _, q4, _⟩ := hS.prs.four; clear hS)
    go_ret
    exact ⟨rfl, HS.out.to k⟩
theorem below_drew' (B : Nat) (W : World) : Below B W W.drew := ⟨rfl, rfl, rfl, Nat.le_refl _, fun _ _ => rfl⟩
theorem rx_next {W : World} {pb : Nat} {s : ByteArray} {b : Bool} {i n : Nat} (h : Prs W pb s b i n) (hi : i < s.size) (hs : s.size ≤ 1024) (hE : Env W pb) :
    Calls Tryd.prog 139 #[pbP pb] W fun e w' => e = .returned (.int .i64 ((nextZ s i b).1 : Int)) ∧ Stp pb s b (i + (nextZ s i b).2) n W w' := by
  have HP := Lib.hid h
  have HE := Lib.hid hE
  obtain ⟨h0, h1, h2, _, _⟩ := h.four
  have cN := fun w hw => next_any s i b w hw (by omega)
  have hx := nx_in s b i hi
  obtain ⟨C, hC⟩ : ∃ C, (nextZ s i b).1 = C := ⟨_, rfl⟩
  obtain ⟨Z, hZ⟩ : ∃ Z, (nextZ s i b).2 = Z := ⟨_, rfl⟩
  rw [hZ] at hx
  rw [hC, hZ] at cN ⊢
  have CN := Lib.hid cN
  obtain ⟨k, hk⟩ : ∃ k, i + Z = k := ⟨_, rfl⟩
  have hk2 : (i : Int) + (Z : Int) = (k : Int) := by omega
  have hw : IntKind.i64.wrap (k : Int) = (k : Int) := by simp [IntKind.wrap, IntKind.bits, IntKind.signed]; omega
  rw [hk]
  clear cN hE hC hZ h
  go_enter Tryd.func139, Tryd.ntmps139
  go_wp2_with fail
  have HK := Lib.hid (fun (W' : World) (hb : Below W.heap.size W W') => (show W'.cell? ⟨pb, 0, none⟩ = some (.string s) ∧ W'.cell? ⟨pb, 1, none⟩ = some (.bool b) ∧ W'.cell? ⟨pb, 2, none⟩ = some (.int .i64 (i : Int)) from ⟨(HP.out.kept hb).four.1, (HP.out.kept hb).four.2.1, (HP.out.kept hb).four.2.2.1⟩))
  go_region_held3 (fun w' => w'.cell? ⟨pb, 0, none⟩ = some (.string s) ∧ w'.cell? ⟨pb, 1, none⟩ = some (.bool b) ∧ w'.cell? ⟨pb, 2, none⟩ = some (.int .i64 (i : Int)))
    (first | (with_reducible exact S1) | go_keep)
    (first | (go_at_call 50; refine (CN.out _ (HE.out.kept (below_drew' pb _)).tabs).mono ?_; rintro e W1 ⟨rfl, hb⟩; have hbb : Below W.heap.size W W1 := (below_drew' _ _).trans hb; have S1 := HK.out _ hbb; have hS := Stp.of HP.out hbb; have HS := Lib.hid hS; obtain ⟨_, _, q2, _, q4, _⟩ := hS.prs.four; clear hS hb))
  all_goals
    go_wp2_with fail
    go_ret
    exact ⟨rfl, HS.out.to k⟩
end Go.Proofs.YtdfacbcenogplaaDoor

namespace Go.Proofs.YtdfacbcenogplaaDoor
open Go.RowKit Go.Lib Go.Sort

/-- Ranges in the cells of a block. -/
def RngR (W : World) (g : Nat) (l : List (Int × Int)) : Prop := ∀ j r, l[j]? = some r → (W.cell? ⟨g, j * 2, none⟩ = some (.int .i64 r.1) ∧ W.cell? ⟨g, j * 2 + 1, none⟩ = some (.int .i64 r.2)) ∧ W.frozen? ⟨g, j * 2, none⟩ = false ∧ W.frozen? ⟨g, j * 2 + 1, none⟩ = false
def encR (x : Int × Int) : List Value := [.int .i64 x.1, .int .i64 x.2]
/-- The cells of ranges. -/
def flatR (l : List (Int × Int)) : List Value := l.flatMap encR
theorem flatR_len : ∀ l : List (Int × Int), (flatR l).length = l.length * 2
  | [] => rfl
  | r :: l => by
    have := flatR_len l
    unfold flatR at this ⊢
    rw [List.flatMap_cons, List.length_append, this, List.length_cons]
    simp only [encR, List.length_cons, List.length_nil]
    omega
theorem flatR_at : ∀ (l : List (Int × Int)) (j : Nat) (r : Int × Int), l[j]? = some r → (flatR l)[j * 2]? = some (.int .i64 r.1) ∧ (flatR l)[j * 2 + 1]? = some (.int .i64 r.2)
  | [], j, r, h => by simp at h
  | q :: l, 0, r, h => by
    obtain rfl : q = r := by simpa using h
    exact ⟨rfl, rfl⟩
  | q :: l, j + 1, r, h => by
    have := flatR_at l j r (by simpa using h)
    unfold flatR at this ⊢
    rw [List.flatMap_cons]
    rw [show (j + 1) * 2 = j * 2 + 2 by omega, show j * 2 + 2 + 1 = j * 2 + 1 + 2 by omega]
    exact this
theorem flatR_app (l m : List (Int × Int)) : flatR (l ++ m) = flatR l ++ flatR m := List.flatMap_append
theorem RngR.below {W W' : World} {g n : Nat} {l : List (Int × Int)} (h : RngR W g l) (hb : Below n W W') (hg : g < n) : RngR W' g l := fun j r hj => by
  obtain ⟨⟨a, b⟩, c, d⟩ := h j r hj
  exact ⟨⟨(hb.cell (p := ⟨g, j * 2, none⟩) hg).trans a, (hb.cell (p := ⟨g, j * 2 + 1, none⟩) hg).trans b⟩, (hb.frozen (p := ⟨g, j * 2, none⟩) hg).trans c, (hb.frozen (p := ⟨g, j * 2 + 1, none⟩) hg).trans d⟩
/-- A block whose cells these are. -/
theorem RngR.of_row {W : World} {g : Nat} {cur : Array Value} {t : TypeId} {l : List (Int × Int)} (h : W.heap[g]? = some (.cells cur t (0, 0))) (hc : cur.toList.take (l.length * 2) = flatR l) : RngR W g l := fun j r hj => by
  have hl : j < l.length := (List.getElem?_eq_some_iff.1 hj).1
  obtain ⟨a, b⟩ := flatR_at l j r hj
  rw [← hc, List.getElem?_take_of_lt (by omega), Array.getElem?_toList] at a b
  exact ⟨⟨(cell_of_row W _ _ _ _ _ h).trans a, (cell_of_row W _ _ _ _ _ h).trans b⟩, frozen_of_row W _ _ _ _ h, frozen_of_row W _ _ _ _ h⟩

theorem rx_compare (x y : Int) (W : World) : Calls Tryd.prog 114 #[.int .i64 x, .int .i64 y] W fun e w' => e = .returned (.int .i64 (if x < y then -1 else if y < x then 1 else 0)) ∧ W = w' := by
  have CN : ∀ (x : Int) (W : World), Calls Tryd.prog 129 #[.int .i64 x] W fun e w' => e = .returned (.bool false) ∧ W = w' := fun x W => by
    go_enter Tryd.func129, Tryd.ntmps129
    go_wp2_with fail
    go_ret
    exact ⟨by simp, rfl⟩
  have CN := Lib.hid CN
  by_cases h1 : x < y
  · rw [if_pos h1]
    go_enter Tryd.func114, Tryd.ntmps114
    go_wp2_with (go_at_call 129; refine (CN.out _ _).mono ?_; rintro e w' ⟨rfl, rfl⟩)
    go_ret
    exact ⟨rfl, rfl⟩
  · rw [if_neg h1]
    by_cases h2 : y < x
    · rw [if_pos h2]
      go_enter Tryd.func114, Tryd.ntmps114
      go_wp2_with (go_at_call 129; refine (CN.out _ _).mono ?_; rintro e w' ⟨rfl, rfl⟩)
      go_ret
      exact ⟨rfl, rfl⟩
    · rw [if_neg h2]
      go_enter Tryd.func114, Tryd.ntmps114
      go_wp2_with (go_at_call 129; refine (CN.out _ _).mono ?_; rintro e w' ⟨rfl, rfl⟩)
      go_ret
      exact ⟨rfl, rfl⟩
def cmpLo (x y : Int × Int) : Int := if x.1 < y.1 then -1 else if y.1 < x.1 then 1 else 0
theorem ltLo (x y : Int × Int) : Go.Proofs.ltOf cmpLo x y = decide (x.1 < y.1) := by
  unfold Go.Proofs.ltOf cmpLo
  by_cases h1 : x.1 < y.1
  · simp [h1]
  · by_cases h2 : y.1 < x.1 <;> simp [h1, h2]
theorem swoLo : SWO (Go.Proofs.ltOf cmpLo) where
  irrefl x := by rw [ltLo]; simp
  trans x y z h1 h2 := by rw [ltLo] at *; simp at *; omega
  ntrans x y z h1 h2 := by rw [ltLo] at *; simp at *; omega
theorem rx_byLo (x y : Int × Int) (W : World) : Calls Tryd.prog 165 #[.agg #[.int .i64 x.1, .int .i64 x.2], .agg #[.int .i64 y.1, .int .i64 y.2]] W fun e w' => e = .returned (.int .i64 (cmpLo x y)) ∧ ∃ q os', w' = grow (W.drewN q) os' := by
  have hcon := fun W' => rx_compare x.1 y.1 W'
  change ∀ W', Calls _ _ _ _ (fun e w' => e = .returned (.int .i64 (cmpLo x y)) ∧ _) at hcon
  generalize cmpLo x y = r at hcon ⊢
  have HC := Lib.hid hcon
  clear hcon
  go_enter Tryd.func165, Tryd.ntmps165
  go_wp2_with (go_at_call 114; refine (HC.out _).mono ?_; rintro e w' ⟨rfl, rfl⟩)
  go_ret
  exact ⟨rfl, 0, _, by rw [alloc_eq_grow, alloc_eq_grow, grow_grow]; rfl⟩
theorem holdsR {W : World} {g : Nat} {l : List (Int × Int)} (h : RngR W g l) : HoldsK encR 2 W g 0 l.toArray := by
  intro t ht
  rw [size_flatK] at ht
  rw [get_flatK _ _ _ _ ht, Nat.zero_add]
  have hj : t / 2 < l.length := by simp at ht; omega
  obtain ⟨⟨a, b⟩, c, d⟩ := h (t / 2) _ (List.getElem?_eq_getElem hj)
  have e : l.toArray[t / 2]! = l[t / 2] := by
    rw [getElem!_pos _ _ (by simpa using hj)]
    simp
  rw [e]
  rcases Nat.mod_two_eq_zero_or_one t with m | m
  · rw [m]
    rw [show t / 2 * 2 = t by omega] at a c
    exact ⟨a, c⟩
  · rw [m]
    rw [show t / 2 * 2 + 1 = t by omega] at b d
    exact ⟨b, d⟩
theorem rngR_of {W : World} {g : Nat} {d : Array (Int × Int)} (h : HoldsK encR 2 W g 0 d) : RngR W g d.toList := fun j r hj => by
  have hl : j < d.size := by simpa using (List.getElem?_eq_some_iff.1 hj).1
  have e : d[j]! = r := by
    rw [getElem!_pos d j hl]
    rw [Array.getElem?_toList, Array.getElem?_eq_getElem hl] at hj
    exact Option.some.inj hj
  have a := h.cell (i := j) (c := 0) hl (by decide)
  have b := h.cell (i := j) (c := 1) hl (by decide)
  rw [e, Nat.zero_add, Nat.add_zero] at a
  rw [e, Nat.zero_add] at b
  exact ⟨⟨a.1, b.1⟩, a.2, b.2⟩
set_option maxHeartbeats 1000000 in
theorem rx_sort {W : World} {g : Nat} {l : List (Int × Int)} (h : RngR W g l) (hg : g < W.heap.size) (hl : l.length ≤ 100000) (cap : Nat) :
    Calls Tryd.prog 164 #[.slice (some ⟨g, 0, none⟩) l.length cap, .func (.func 165) #[] #[]] W fun e w' => e = .returned (.tuple #[]) ∧ ∃ d, d.Perm l ∧ RxLow d ∧ RngR w' g d ∧ Off2 g g W w' := by
  have eg : ∀ args w, (callFunc 165 args).run Tryd.prog w = .ok (.enter 165 args) w := enters_of Tryd.func165 (by kernel_rfl) rfl
  have hcon := AnyQ.slices_SortFunc Tryd.sl_sort 2 Tryd.isAgg143 Tryd.sizeOf143 encR (fun _ => rfl) (fun x v hv => by simp [encR] at hv; rcases hv with rfl | rfl <;> rfl) cmpLo swoLo 165 #[] g 0 cap l.toArray W eg (fun _ _ _ _ x y => rx_byLo x y _) (holdsR h) hg (by simp; omega)
  have hs : l.toArray.size = l.length := by simp
  rw [hs] at hcon
  refine (show Calls _ _ _ _ _ from hcon).mono ?_
  rintro e w' ⟨he, d', n, os, hp, hso, rfl⟩
  obtain ⟨p1, p2, p3⟩ := hp
  have hz : d'.size = l.length := by rw [p1, hs]
  have e1 : d'.extract 0 l.length = d' := by rw [← hz]; simp
  have e2 : l.toArray.extract 0 l.length = l.toArray := by simp
  rw [e1, e2] at p3
  refine ⟨he, d'.toList, by simpa using p3, ?_, ?_, ?_⟩
  · unfold RxLow
    rw [List.pairwise_iff_getElem]
    intro i j hi hj hij
    have hj' : j < d'.size := by simpa using hj
    have := hso i j (Nat.zero_le _) hij (by omega)
    rw [ltLo, decide_eq_false_iff_not, getElem!_pos d' j hj', getElem!_pos d' i (by omega)] at this
    simp only [Array.getElem_toList]
    omega
  · refine rngR_of ?_
    have h1 := holdsK_putRowK encR 2 (Sort.ahead W n) g 0 l.toArray d' (holdsR h) (by rw [hz, hs])
    exact holdsK_grow encR 2 _ os g 0 d' (by rw [show (putRowK encR 2 (Sort.ahead W n) g 0 d').heap.size = W.heap.size from by simp [putRowK, putRow, mapBlock, Sort.ahead]]; exact hg) h1
  · refine ⟨rfl, rfl, rfl, by simp [sortWorldK, putRowK, putRow, mapBlock, Sort.ahead], fun k hk hne _ => ?_⟩
    unfold sortWorldK
    rw [heap_grow_old _ _ (by simpa [putRowK, putRow, mapBlock, Sort.ahead] using hk)]
    have : g ≠ k := fun e => hne e.symm
    simp [putRowK, putRow, mapBlock, Sort.ahead, Array.getElem?_modify, this]
end Go.Proofs.YtdfacbcenogplaaDoor

namespace Go.Proofs.YtdfacbcenogplaaDoor
open Go.RowKit Go.Lib

theorem info_rng : (Tryd.prog.info? 143).map (fun i => (i.zero, i.size, i.bytes)) = some (some (.agg #[.int .i64 0, .int .i64 0]), 2, 16) := by kernel_rfl
/-- All numbers fit. -/
def Bnd (l : List (Int × Int)) : Prop := ∀ r ∈ l, 0 ≤ r.1 ∧ r.1 ≤ 2000000 ∧ 0 ≤ r.2 ∧ r.2 ≤ 2000000
theorem bnd_step {all : List (Int × Int)} {r : Int × Int} (h : Bnd all) (hr : 0 ≤ r.1 ∧ r.1 ≤ 2000000 ∧ 0 ≤ r.2 ∧ r.2 ≤ 2000000) : Bnd (stepJ all r) := by
  intro q hq
  rcases List.eq_nil_or_concat all with rfl | ⟨ks, u, rfl⟩
  · simp [stepJ] at hq
    rw [hq]; exact hr
  · rw [List.concat_eq_append] at h hq
    have hu := h u (by simp)
    simp only [stepJ, List.getLast?_concat, List.dropLast_concat] at hq
    split at hq
    · rcases List.mem_append.1 hq with hq | hq
      · exact h q (by simp [hq])
      · simp at hq
        rw [hq]
        simp only
        omega
    · rcases List.mem_append.1 hq with hq | hq
      · exact h q hq
      · simp at hq
        rw [hq]; exact hr
/-- The ranges joined so far: a row of its own. -/
theorem own_rng {W : World} {n : Nat} {v : Value} {l : List (Int × Int)} (h : W.ownsRow n 143 2 v l.length (flatR l)) (hl : l.length ≤ 100000) : RgIn W (fun c => n ≤ c) l v := by
  rcases h.2 with ⟨rfl, h0⟩ | ⟨g, cap, cur, rfl, hg, hr, _, _, _, ht⟩
  · have : l = [] := List.length_eq_zero_iff.1 h0
    subst this
    exact RgIn.nil W _ none 0
  · have R := RngR.of_row hr ht
    exact ⟨_, cap, rfl, hl, fun j r hj => ⟨g, rfl, hg, (R j r hj).1.1, (R j r hj).1.2⟩⟩
theorem flat_set (ks : List (Int × Int)) (u : Int × Int) (m : Int) : (flatR (ks ++ [u])).set (ks.length * 2 + 1) (.int .i64 m) = flatR (ks ++ [(u.1, m)]) := by
  rw [flatR_app, flatR_app, List.set_append_right _ _ (by rw [flatR_len]; omega), flatR_len]
  rw [show ks.length * 2 + 1 - ks.length * 2 = 1 by omega]
  rfl
theorem rx_row_new (w : World) (cs : Array Value) (t : TypeId) : ∀ j u, cs.toList[j]? = some u → (w.alloc (.cells cs t)).cell? ((⟨w.heap.size, 0, none⟩ : Addr).add j) = some u := fun j u hu => by
  have hb : Blk (w.alloc (.cells cs t)) w.heap.size cs t := Blk.new w cs t
  rw [show ((⟨w.heap.size, 0, none⟩ : Addr).add j) = ⟨w.heap.size, j, none⟩ by rw [Addr.add_lit, Nat.zero_add], hb.cell]
  rw [← Array.getElem?_toList]
  exact hu
theorem off_grown {g : Nat} {W W1 W2 : World} {r : Option Nat} (h : Off2 g g W W1) (hg : W1.grownBy W2 r) (hr : ∀ q, r = some q → W.heap.size ≤ q) : Off2 g g W W2 :=
  ⟨hg.os.trans h.os, hg.tape.trans h.tape, hg.output.trans h.output, Nat.le_trans h.size hg.size, fun i hi h1 h2 => (hg.block i (Nat.lt_of_lt_of_le hi h.size) (fun e => by have := hr i e.symm; omega)).trans (h.block i hi h1 h2)⟩
theorem RngR.grown {W W' : World} {g : Nat} {l : List (Int × Int)} {r : Option Nat} (h : RngR W g l) (hg : W.grownBy W' r) (hr : r ≠ some g) : RngR W' g l := fun j q hj => by
  obtain ⟨⟨a, b⟩, c, d⟩ := h j q hj
  have hk := hg.block g (World.block_lt_of_cell? W _ a) (fun e => hr e.symm)
  exact ⟨⟨(World.cell?_of_block (a := ⟨g, j * 2, none⟩) hk).trans a, (World.cell?_of_block (a := ⟨g, j * 2 + 1, none⟩) hk).trans b⟩, (World.frozen?_of_block (a := ⟨g, j * 2, none⟩) hk).trans c, (World.frozen?_of_block (a := ⟨g, j * 2 + 1, none⟩) hk).trans d⟩
set_option maxRecDepth 100000 in
set_option maxHeartbeats 2000000 in
theorem rx_joined {W : World} {g : Nat} {l : List (Int × Int)} (h : RngR W g l) (hg : g < W.heap.size) (hl : l.length ≤ 100000) (hb : Bnd l) (hf : Fit l) (cap : Nat) :
    Calls Tryd.prog 152 #[.slice (some ⟨g, 0, none⟩) l.length cap] W fun e w' => ∃ v, e = .returned v ∧ RgIn w' (fun c => W.heap.size ≤ c) (joinR l) v ∧ Off2 g g W w' := by
  have CS := Lib.hid (rx_sort h hg hl cap)
  have HB := Lib.hid hb
  have HF := Lib.hid hf
  obtain ⟨i0, hi, hz0, hz1, hz2⟩ := info_parts info_rng
  clear h hb hf
  go_enter Tryd.func152, Tryd.ntmps152
  go_wp2_with fail
  refine CS.out.mono ?_
  rintro e W1 ⟨rfl, d, hp, hlow, hR, hO⟩
  have HP := Lib.hid hp
  have HL := Lib.hid hlow
  have HR := Lib.hid hR
  have HO := Lib.hid hO
  have hlen : d.length = l.length := hp.length_eq
  have hs1 := hO.size
  clear hp hlow hR hO CS
  go_wp2_with fail
  go_loopw [3, 11] (fun sv kv wr => ∃ (v : Value) (k : Nat) (acc : List (Int × Int)), v = sv ∧ kv = .int .i64 (k : Int) ∧ k ≤ l.length ∧ acc = (d.take k).foldl stepJ [] ∧ wr.ownsRow W.heap.size 143 2 v acc.length (flatR acc) ∧ Off2 g g W wr ∧ RngR wr g d ∧ W1.heap.size ≤ wr.heap.size) (fun _ kv _ => l.length - (RowKit.intOf kv).toNat)
  case atStart => exact ⟨_, 0, [], rfl, rfl, Nat.zero_le _, rfl, World.ownsRow_nil _ _ _ _, HO.out, HR.out, Nat.le_refl _⟩
  case round =>
    obtain ⟨v, k, acc, rfl, rfl, hk, ha, hO, hOff, hRd, hsz⟩ := hrel
    have HA := Lib.hid ha
    clear ha
    by_cases hlt : k < l.length
    · have hkl : k < d.length := by omega
      obtain ⟨r, hr⟩ : ∃ r, d[k] = r := ⟨_, rfl⟩
      have hdk : d[k]? = some r := by rw [List.getElem?_eq_getElem hkl, hr]
      have HN := Lib.hid (show stepJ acc r = (d.take (k + 1)).foldl stepJ [] by
        rw [List.take_succ_eq_append_getElem hkl, List.foldl_append, ← HA.out, hr]
        rfl)
      obtain ⟨⟨c0, c1⟩, _⟩ := hRd k r hdk
      have hrb := HB.out r (HP.out.mem_iff.1 (by rw [← hr]; exact List.getElem_mem hkl))
      have hacc : acc.length ≤ k := by
        have := fold_len (d.take k) []
        rw [← HA.out] at this
        simp at this
        omega
      have hab : Bnd acc := by
        rw [HA.out]
        clear HA HN hO hacc
        have : ∀ (m : List (Int × Int)) (a : List (Int × Int)), Bnd a → (∀ q ∈ m, q ∈ l) → Bnd (m.foldl stepJ a) := by
          intro m
          induction m with
          | nil => exact fun a h _ => h
          | cons q m ih =>
            intro a h hm
            rw [List.foldl_cons]
            exact ih _ (bnd_step h (HB.out q (hm q (by simp)))) (fun z hz => hm z (by simp [hz]))
        exact this _ _ (fun q hq => by simp at hq) (fun q hq => HP.out.mem_iff.1 (List.mem_of_mem_take hq))
      clear hr hdk hkl
      obtain ⟨r1, r2⟩ := r
      simp only at c0 c1 hrb
      have e0 : wr.cell? ⟨g, k * 2, none⟩ = some (.int .i64 r1) := c0
      have hgw : g < wr.heap.size := World.block_lt_of_cell? wr _ c0
      have F0 := Blk.new wr #[.int .i64 r1, .int .i64 r2] 143
      have q0 : (wr.alloc (.cells #[.int .i64 r1, .int .i64 r2] 143)).cell? ⟨wr.heap.size, 0, none⟩ = some (.int .i64 r1) := F0.cell 0
      have q1 : (wr.alloc (.cells #[.int .i64 r1, .int .i64 r2] 143)).cell? ⟨wr.heap.size, 1, none⟩ = some (.int .i64 r2) := F0.cell 1
      obtain ⟨k1, hk1⟩ : ∃ k1, k + 1 = k1 := ⟨_, rfl⟩
      have hwk : IntKind.i64.wrap ((k : Int) + 1) = (k1 : Int) := by simp [IntKind.wrap, IntKind.bits, IntKind.signed]; omega
      have RD := Lib.hid hRd
      have OF := Lib.hid hOff
      have HOW := Lib.hid hO
      have HAB := Lib.hid hab
      clear hRd hOff c0 hab F0
      -- what is appended
      have app : ∀ (na : Nat), acc.length = na → (stepJ acc (r1, r2) = acc ++ [(r1, r2)]) → ∀ (X : World) (v' : Value) (w2 : World), Below wr.heap.size wr X →
          w2.ownsRow W.heap.size 143 2 v' (na + 1) (flatR acc ++ [.int .i64 r1, .int .i64 r2]) → X.grownBy w2 v.ownBlock →
          ∃ (v2 : Value) (k2 : Nat) (acc2 : List (Int × Int)), v2 = v' ∧ Value.int .i64 (k1 : Int) = .int .i64 (k2 : Int) ∧ k2 ≤ l.length ∧ acc2 = (d.take k2).foldl stepJ [] ∧ w2.ownsRow W.heap.size 143 2 v2 acc2.length (flatR acc2) ∧ Off2 g g W w2 ∧ RngR w2 g d ∧ W1.heap.size ≤ w2.heap.size := by
        intro na hna hst X v' w2 b2 ho hgr
        have hfar : ∀ q, v.ownBlock = some q → W.heap.size ≤ q := fun q hq => (HOW.out.lt q hq).1
        refine ⟨v', k1, stepJ acc (r1, r2), rfl, rfl, by omega, by rw [HN.out, hk1], ?_, off_grown (OF.out.trans (Off2.of_below b2)) hgr hfar, (RD.out.below b2 hgw).grown hgr (fun e => by have := hfar _ e; omega), ?_⟩
        · rw [hst, flatR_app, List.length_append, hna]
          exact ho
        · have := b2.size
          have := hgr.size
          omega
      have APP := Lib.hid app
      clear app
      have RN := Lib.hid (fun (nq : Nat) => show ∀ j u, [Value.int .i64 r1, .int .i64 r2][j]? = some u → (((wr.alloc (.cells #[.int .i64 r1, .int .i64 r2] 143)).drewN nq).alloc (.cells #[.int .i64 r1, .int .i64 r2] 143)).cell? ((⟨wr.heap.size + 1, 0, none⟩ : Addr).add j) = some u by
        have := rx_row_new ((wr.alloc (.cells #[.int .i64 r1, .int .i64 r2] 143)).drewN nq) #[.int .i64 r1, .int .i64 r2] 143
        simpa using this)
      have BX := Lib.hid (fun (nq : Nat) => show Below wr.heap.size wr (((wr.alloc (.cells #[.int .i64 r1, .int .i64 r2] 143)).drewN nq).alloc (.cells #[.int .i64 r1, .int .i64 r2] 143)) from (below_drewN ((Below.refl _ _).alloc (Nat.le_refl _) _) nq).alloc (by simp) _)
      have HI := Lib.hid (And.intro hi (And.intro hz0 (And.intro hz1 hz2)))
      obtain ⟨A, cp, hv⟩ : ∃ A cp, v = .slice A acc.length cp := by
        rcases HOW.out.2 with ⟨e, h0⟩ | ⟨q, cp, cur, e, _⟩
        · exact ⟨none, 0, by rw [e, h0]⟩
        · exact ⟨_, _, e⟩
      obtain ⟨na, hna⟩ : ∃ na, acc.length = na := ⟨_, rfl⟩
      by_cases h0 : na = 0
      · have hst : stepJ acc (r1, r2) = acc ++ [(r1, r2)] := by
          obtain rfl : acc = [] := List.length_eq_zero_iff.1 (by omega)
          rfl
        have AP := Lib.hid (APP.out na hna hst)
        have h00 : wr.ownsRow W.heap.size 143 2 v na (flatR acc) := hna ▸ HOW.out
        have HO0 := Lib.hid (fun nq : Nat => (show (((wr.alloc (.cells #[.int .i64 r1, .int .i64 r2] 143)).drewN nq).alloc (.cells #[.int .i64 r1, .int .i64 r2] 143)).ownsRow W.heap.size 143 2 v na (flatR acc) from (show ((wr.alloc (.cells #[.int .i64 r1, .int .i64 r2] 143)).drewN nq).ownsRow W.heap.size 143 2 v na (flatR acc) from h00.alloc _).alloc _))
        clear h00
        obtain ⟨F, hF⟩ : ∃ F, flatR acc = F := ⟨_, rfl⟩
        rw [hF] at AP HO0
        rw [hna] at hv
        subst h0
        subst hv
        clear APP hF hna hO hst HAB HOW HA
        have hw0 : IntKind.i64.wrap ((0 : Int) - 1) = -1 := by decide
        have hneg : ¬ (0 : Int) ≤ -1 := by decide
        go_wp2_with fail
        go_quiet (fail)
        go_wp2_with (at_builtin; refine wpList_append_own_at _ rfl _ _ 55 rfl W.heap.size 143 i0 _ 2 16 Tryd.underlying55 HI.out.1 HI.out.2.1 HI.out.2.2.1 HI.out.2.2.2 rfl (by decide) _ 0 F rfl (HO0.out _) ⟨wr.heap.size + 1, 0, none⟩ 1 1 [.int .i64 r1, .int .i64 r2] rfl rfl (RN.out _) (by simp [Value.oneCell']) (by unfold maxLen; omega) (by omega) (by simp; omega) ?_)
        rintro v' w2 ho hgr _ _
        have HH := Lib.hid (AP.out _ v' w2 (BX.out _) ho hgr)
        clear ho hgr AP HO0 RN BX OF RD
        go_wp2_with fail
        refine ⟨HH.out, ?_⟩
        simp [RowKit.intOf]
        omega
      · obtain ⟨ks, u, hku⟩ : ∃ ks u, acc = ks ++ [u] := by
          rcases List.eq_nil_or_concat acc with h | ⟨ks, u, h⟩
          · rw [h] at hna; exact absurd hna.symm h0
          · exact ⟨ks, u, by rw [h, List.concat_eq_append]⟩
        obtain ⟨u1, u2⟩ := u
        have hkl : ks.length + 1 = na := by rw [← hna, hku]; simp
        obtain ⟨m, hm⟩ : ∃ m, ks.length = m := ⟨_, rfl⟩
        rw [hm] at hkl
        have hub := HAB.out (u1, u2) (by rw [hku]; simp)
        simp only at hub
        rcases HOW.out.2 with ⟨_, e⟩ | ⟨q, cp', cur, e, hq, hrow, hn1, hn2, hn3, hn4⟩
        · omega
        rw [hna] at e hn1 hn4
        subst e
        clear hv
        have hcell := (flatR_at acc m (u1, u2) (by rw [hku, ← hm]; simp)).2
        rw [← hn4, List.getElem?_take_of_lt (by omega), Array.getElem?_toList] at hcell
        have hnak : na ≤ k := hna ▸ hacc
        have g1 : wr.cell? ⟨q, m * 2 + 1, none⟩ = some (.int .i64 u2) := (cell_of_row wr _ _ _ _ _ hrow).trans hcell
        have g1' : (wr.alloc (.cells #[.int .i64 r1, .int .i64 r2] 143)).cell? ⟨q, m * 2 + 1, none⟩ = some (.int .i64 u2) := (Below.cell ((Below.refl wr.heap.size wr).alloc (Nat.le_refl _) _) (p := ⟨q, m * 2 + 1, none⟩) (World.block_lt_of_cell? wr _ g1)).trans g1
        have f1' : (wr.alloc (.cells #[.int .i64 r1, .int .i64 r2] 143)).frozen? ⟨q, m * 2 + 1, none⟩ = false := (Below.frozen ((Below.refl wr.heap.size wr).alloc (Nat.le_refl _) _) (p := ⟨q, m * 2 + 1, none⟩) (World.block_lt_of_cell? wr _ g1)).trans (frozen_of_row wr _ _ _ _ hrow)
        have hwm : IntKind.i64.wrap ((na : Int) - 1) = (m : Int) := by simp [IntKind.wrap, IntKind.bits, IntKind.signed]; omega
        have hm0 : (0 : Int) ≤ (m : Int) := by omega
        have hm1 : (m : Int) < (na : Int) := by omega
        have hm2 : ((m : Int)).toNat = m := by omega
        obtain ⟨u3, hu3⟩ : ∃ u3, u2 + 1 = u3 := ⟨_, rfl⟩
        have hwu : IntKind.i64.wrap (u2 + 1) = u3 := by simp [IntKind.wrap, IntKind.bits, IntKind.signed]; omega
        have h00 : wr.ownsRow W.heap.size 143 2 (.slice (some ⟨q, 0, none⟩) na cp') na (flatR acc) := hna ▸ HOW.out
        by_cases hj : r1 ≤ u3
        · have hst : stepJ acc (r1, r2) = ks ++ [(u1, max u2 r2)] := by
            rw [hku, stepJ]
            simp only [List.getLast?_concat, List.dropLast_concat]
            rw [if_pos (show r1 ≤ u2 + 1 by omega)]
          obtain ⟨mx, hmx⟩ : ∃ mx, max u2 r2 = mx := ⟨_, rfl⟩
          have hjd : decide (r1 ≤ u3) = true := decide_eq_true hj
          have PUT := Lib.hid (fun nq : Nat => show ∃ (v2 : Value) (k2 : Nat) (acc2 : List (Int × Int)), v2 = Value.slice (some ⟨q, 0, none⟩) na cp' ∧ Value.int .i64 (k1 : Int) = .int .i64 (k2 : Int) ∧ k2 ≤ l.length ∧ acc2 = (d.take k2).foldl stepJ [] ∧ (((wr.alloc (.cells #[.int .i64 r1, .int .i64 r2] 143)).drewN nq).setCell ⟨q, m * 2 + 1, none⟩ (.int .i64 mx)).ownsRow W.heap.size 143 2 v2 acc2.length (flatR acc2) ∧ Off2 g g W (((wr.alloc (.cells #[.int .i64 r1, .int .i64 r2] 143)).drewN nq).setCell ⟨q, m * 2 + 1, none⟩ (.int .i64 mx)) ∧ RngR (((wr.alloc (.cells #[.int .i64 r1, .int .i64 r2] 143)).drewN nq).setCell ⟨q, m * 2 + 1, none⟩ (.int .i64 mx)) g d ∧ W1.heap.size ≤ (((wr.alloc (.cells #[.int .i64 r1, .int .i64 r2] 143)).drewN nq).setCell ⟨q, m * 2 + 1, none⟩ (.int .i64 mx)).heap.size by
            have h1 : ((wr.alloc (.cells #[.int .i64 r1, .int .i64 r2] 143)).drewN nq).ownsRow W.heap.size 143 2 (.slice (some ⟨q, 0, none⟩) na cp') na (flatR acc) := h00.alloc _
            obtain ⟨s1, s2⟩ := h1.stored (m * 2 + 1) (.int .i64 mx)
            have b2 : Below wr.heap.size wr ((wr.alloc (.cells #[.int .i64 r1, .int .i64 r2] 143)).drewN nq) := below_drewN ((Below.refl _ _).alloc (Nat.le_refl _) _) nq
            refine ⟨_, k1, stepJ acc (r1, r2), rfl, rfl, by omega, by rw [HN.out, hk1], ?_, off_grown (OF.out.trans (Off2.of_below b2)) s2 (fun z hz => by cases hz; exact hq), (RD.out.below b2 hgw).grown s2 (fun e => by cases e; omega), ?_⟩
            · rw [hst, hmx, ← flat_set ks (u1, u2) mx, ← hku, hm, List.length_append]
              rw [show ks.length + [(u1, mx)].length = na by simp; omega]
              exact s1
            · have := b2.size
              have := s2.size
              omega)
          clear APP hO HOW HAB HA hcell hrow hn4 hku hst h00 RN BX OF RD HN hna hu3
          go_wp2_with fail
          go_quiet (fail)
          go_wp2_with fail
          go_region_law (first | fail)
          all_goals
            go_wp2_with fail
            refine ⟨PUT.out _, ?_⟩
            simp [RowKit.intOf]
            omega
        · have hst : stepJ acc (r1, r2) = acc ++ [(r1, r2)] := by
            rw [hku, stepJ]
            simp only [List.getLast?_concat, List.dropLast_concat]
            rw [if_neg (show ¬ r1 ≤ u2 + 1 by omega)]
          have hjd : decide (r1 ≤ u3) = false := decide_eq_false hj
          have AP := Lib.hid (APP.out na hna hst)
          have HO0 := Lib.hid (fun nq : Nat => (show (((wr.alloc (.cells #[.int .i64 r1, .int .i64 r2] 143)).drewN nq).alloc (.cells #[.int .i64 r1, .int .i64 r2] 143)).ownsRow W.heap.size 143 2 (.slice (some ⟨q, 0, none⟩) na cp') na (flatR acc) from (show ((wr.alloc (.cells #[.int .i64 r1, .int .i64 r2] 143)).drewN nq).ownsRow W.heap.size 143 2 (.slice (some ⟨q, 0, none⟩) na cp') na (flatR acc) from h00.alloc _).alloc _))
          obtain ⟨F, hF⟩ : ∃ F, flatR acc = F := ⟨_, rfl⟩
          rw [hF] at AP HO0
          clear APP hO HOW HAB HA hcell hrow hn4 hku hst h00 hF HN hna hu3
          go_wp2_with fail
          go_quiet (fail)
          go_wp2_with (at_builtin; refine wpList_append_own_at _ rfl _ _ 55 rfl W.heap.size 143 i0 _ 2 16 Tryd.underlying55 HI.out.1 HI.out.2.1 HI.out.2.2.1 HI.out.2.2.2 rfl (by decide) _ na F rfl (HO0.out _) ⟨wr.heap.size + 1, 0, none⟩ 1 1 [.int .i64 r1, .int .i64 r2] rfl rfl (RN.out _) (by simp [Value.oneCell']) (by unfold maxLen; omega) (by omega) (by simp; omega) ?_)
          rintro v' w2 ho hgr _ _
          have HH := Lib.hid (AP.out _ v' w2 (BX.out _) ho hgr)
          clear ho hgr AP HO0 RN BX OF RD
          go_wp2_with fail
          refine ⟨HH.out, ?_⟩
          simp [RowKit.intOf]
          omega
    · have hkn : k = l.length := by omega
      have HD := Lib.hid (show acc = joinR l by
        rw [HA.out, hkn, ← hlen, List.take_length, fold_jn, join_any HP.out HL.out HF.out])
      have hacc : acc.length ≤ 100000 := by
        have := fold_len (d.take k) []
        rw [← HA.out] at this
        simp at this
        omega
      have HG := Lib.hid (own_rng hO hacc)
      have HO2 := Lib.hid hOff
      clear hO hOff hRd hkn
      go_wp2_with fail
      go_ret
      refine ⟨_, rfl, ?_, HO2.out⟩
      rw [← HD.out]
      exact HG.out
end Go.Proofs.YtdfacbcenogplaaDoor

namespace Go.Proofs.YtdfacbcenogplaaDoor
open Go.RowKit Go.Lib

/-- The row that 'codes' lays. -/
abbrev codeObj (l : List (Int × Int)) : Obj := .cells (flatR l).toArray 143
theorem ba_of {s : ByteArray} {l : List UInt8} (h : s.data.toList = l) : s = ⟨l.toArray⟩ := by
  cases s
  simp only at h
  rw [← h]

set_option maxRecDepth 100000 in
theorem rx_codes_alpha (W : World) : Calls Tryd.prog 154 #[.string ⟨#[97, 108, 112, 104, 97]⟩] W fun e w' => e = .returned (.slice (some ⟨W.heap.size, 0, none⟩) 2 2) ∧ w' = W.alloc (codeObj [(65, 90), (97, 122)]) := by
  go_enter Tryd.func154, Tryd.ntmps154
  go_wp2_with fail
  go_ret
  exact ⟨rfl, rfl⟩
set_option maxRecDepth 100000 in
theorem rx_codes_digit (W : World) : Calls Tryd.prog 154 #[.string ⟨#[100, 105, 103, 105, 116]⟩] W fun e w' => e = .returned (.slice (some ⟨W.heap.size, 0, none⟩) 1 1) ∧ w' = W.alloc (codeObj [(48, 57)]) := by
  go_enter Tryd.func154, Tryd.ntmps154
  go_wp2_with fail
  go_ret
  exact ⟨rfl, rfl⟩
set_option maxRecDepth 100000 in
theorem rx_codes_alnum (W : World) : Calls Tryd.prog 154 #[.string ⟨#[97, 108, 110, 117, 109]⟩] W fun e w' => e = .returned (.slice (some ⟨W.heap.size, 0, none⟩) 3 3) ∧ w' = W.alloc (codeObj [(48, 57), (65, 90), (97, 122)]) := by
  go_enter Tryd.func154, Tryd.ntmps154
  go_wp2_with fail
  go_ret
  exact ⟨rfl, rfl⟩
set_option maxRecDepth 100000 in
theorem rx_codes_upper (W : World) : Calls Tryd.prog 154 #[.string ⟨#[117, 112, 112, 101, 114]⟩] W fun e w' => e = .returned (.slice (some ⟨W.heap.size, 0, none⟩) 1 1) ∧ w' = W.alloc (codeObj [(65, 90)]) := by
  go_enter Tryd.func154, Tryd.ntmps154
  go_wp2_with fail
  go_ret
  exact ⟨rfl, rfl⟩
set_option maxRecDepth 100000 in
theorem rx_codes_lower (W : World) : Calls Tryd.prog 154 #[.string ⟨#[108, 111, 119, 101, 114]⟩] W fun e w' => e = .returned (.slice (some ⟨W.heap.size, 0, none⟩) 1 1) ∧ w' = W.alloc (codeObj [(97, 122)]) := by
  go_enter Tryd.func154, Tryd.ntmps154
  go_wp2_with fail
  go_ret
  exact ⟨rfl, rfl⟩
set_option maxRecDepth 100000 in
theorem rx_codes_space (W : World) : Calls Tryd.prog 154 #[.string ⟨#[115, 112, 97, 99, 101]⟩] W fun e w' => e = .returned (.slice (some ⟨W.heap.size, 0, none⟩) 2 2) ∧ w' = W.alloc (codeObj [(9, 13), (32, 32)]) := by
  go_enter Tryd.func154, Tryd.ntmps154
  go_wp2_with fail
  go_ret
  exact ⟨rfl, rfl⟩
set_option maxRecDepth 100000 in
theorem rx_codes_blank (W : World) : Calls Tryd.prog 154 #[.string ⟨#[98, 108, 97, 110, 107]⟩] W fun e w' => e = .returned (.slice (some ⟨W.heap.size, 0, none⟩) 2 2) ∧ w' = W.alloc (codeObj [(9, 9), (32, 32)]) := by
  go_enter Tryd.func154, Tryd.ntmps154
  go_wp2_with fail
  go_ret
  exact ⟨rfl, rfl⟩
set_option maxRecDepth 100000 in
theorem rx_codes_punct (W : World) : Calls Tryd.prog 154 #[.string ⟨#[112, 117, 110, 99, 116]⟩] W fun e w' => e = .returned (.slice (some ⟨W.heap.size, 0, none⟩) 4 4) ∧ w' = W.alloc (codeObj [(33, 47), (58, 64), (91, 96), (123, 126)]) := by
  go_enter Tryd.func154, Tryd.ntmps154
  go_wp2_with fail
  go_ret
  exact ⟨rfl, rfl⟩
set_option maxRecDepth 100000 in
theorem rx_codes_print (W : World) : Calls Tryd.prog 154 #[.string ⟨#[112, 114, 105, 110, 116]⟩] W fun e w' => e = .returned (.slice (some ⟨W.heap.size, 0, none⟩) 1 1) ∧ w' = W.alloc (codeObj [(32, 126)]) := by
  go_enter Tryd.func154, Tryd.ntmps154
  go_wp2_with fail
  go_ret
  exact ⟨rfl, rfl⟩
set_option maxRecDepth 100000 in
theorem rx_codes_graph (W : World) : Calls Tryd.prog 154 #[.string ⟨#[103, 114, 97, 112, 104]⟩] W fun e w' => e = .returned (.slice (some ⟨W.heap.size, 0, none⟩) 1 1) ∧ w' = W.alloc (codeObj [(33, 126)]) := by
  go_enter Tryd.func154, Tryd.ntmps154
  go_wp2_with fail
  go_ret
  exact ⟨rfl, rfl⟩
set_option maxRecDepth 100000 in
theorem rx_codes_cntrl (W : World) : Calls Tryd.prog 154 #[.string ⟨#[99, 110, 116, 114, 108]⟩] W fun e w' => e = .returned (.slice (some ⟨W.heap.size, 0, none⟩) 2 2) ∧ w' = W.alloc (codeObj [(0, 31), (127, 127)]) := by
  go_enter Tryd.func154, Tryd.ntmps154
  go_wp2_with fail
  go_ret
  exact ⟨rfl, rfl⟩
set_option maxRecDepth 100000 in
theorem rx_codes_xdigit (W : World) : Calls Tryd.prog 154 #[.string ⟨#[120, 100, 105, 103, 105, 116]⟩] W fun e w' => e = .returned (.slice (some ⟨W.heap.size, 0, none⟩) 3 3) ∧ w' = W.alloc (codeObj [(48, 57), (65, 70), (97, 102)]) := by
  go_enter Tryd.func154, Tryd.ntmps154
  go_wp2_with fail
  go_ret
  exact ⟨rfl, rfl⟩
set_option maxRecDepth 100000 in
set_option maxHeartbeats 4000000 in
theorem rx_codes_none (s : ByteArray) (W : World) (h : clsL s.data.toList = none) : Calls Tryd.prog 154 #[.string s] W fun e w' => e = .returned (.slice none 0 0) ∧ W = w' := by
  unfold clsL at h
  by_cases h0 : s.data.toList = [97, 108, 112, 104, 97]
  · rw [if_pos h0] at h
    cases h
  rw [if_neg h0] at h
  by_cases h1 : s.data.toList = [100, 105, 103, 105, 116]
  · rw [if_pos h1] at h
    cases h
  rw [if_neg h1] at h
  by_cases h2 : s.data.toList = [97, 108, 110, 117, 109]
  · rw [if_pos h2] at h
    cases h
  rw [if_neg h2] at h
  by_cases h3 : s.data.toList = [117, 112, 112, 101, 114]
  · rw [if_pos h3] at h
    cases h
  rw [if_neg h3] at h
  by_cases h4 : s.data.toList = [108, 111, 119, 101, 114]
  · rw [if_pos h4] at h
    cases h
  rw [if_neg h4] at h
  by_cases h5 : s.data.toList = [115, 112, 97, 99, 101]
  · rw [if_pos h5] at h
    cases h
  rw [if_neg h5] at h
  by_cases h6 : s.data.toList = [98, 108, 97, 110, 107]
  · rw [if_pos h6] at h
    cases h
  rw [if_neg h6] at h
  by_cases h7 : s.data.toList = [112, 117, 110, 99, 116]
  · rw [if_pos h7] at h
    cases h
  rw [if_neg h7] at h
  by_cases h8 : s.data.toList = [112, 114, 105, 110, 116]
  · rw [if_pos h8] at h
    cases h
  rw [if_neg h8] at h
  by_cases h9 : s.data.toList = [103, 114, 97, 112, 104]
  · rw [if_pos h9] at h
    cases h
  rw [if_neg h9] at h
  by_cases h10 : s.data.toList = [99, 110, 116, 114, 108]
  · rw [if_pos h10] at h
    cases h
  rw [if_neg h10] at h
  by_cases h11 : s.data.toList = [120, 100, 105, 103, 105, 116]
  · rw [if_pos h11] at h
    cases h
  rw [if_neg h11] at h
  clear h
  replace h0 : (s.toList == [97, 108, 112, 104, 97]) = false := by rw [Lib.toList_data, beq_eq_false_iff_ne]; exact h0
  replace h1 : (s.toList == [100, 105, 103, 105, 116]) = false := by rw [Lib.toList_data, beq_eq_false_iff_ne]; exact h1
  replace h2 : (s.toList == [97, 108, 110, 117, 109]) = false := by rw [Lib.toList_data, beq_eq_false_iff_ne]; exact h2
  replace h3 : (s.toList == [117, 112, 112, 101, 114]) = false := by rw [Lib.toList_data, beq_eq_false_iff_ne]; exact h3
  replace h4 : (s.toList == [108, 111, 119, 101, 114]) = false := by rw [Lib.toList_data, beq_eq_false_iff_ne]; exact h4
  replace h5 : (s.toList == [115, 112, 97, 99, 101]) = false := by rw [Lib.toList_data, beq_eq_false_iff_ne]; exact h5
  replace h6 : (s.toList == [98, 108, 97, 110, 107]) = false := by rw [Lib.toList_data, beq_eq_false_iff_ne]; exact h6
  replace h7 : (s.toList == [112, 117, 110, 99, 116]) = false := by rw [Lib.toList_data, beq_eq_false_iff_ne]; exact h7
  replace h8 : (s.toList == [112, 114, 105, 110, 116]) = false := by rw [Lib.toList_data, beq_eq_false_iff_ne]; exact h8
  replace h9 : (s.toList == [103, 114, 97, 112, 104]) = false := by rw [Lib.toList_data, beq_eq_false_iff_ne]; exact h9
  replace h10 : (s.toList == [99, 110, 116, 114, 108]) = false := by rw [Lib.toList_data, beq_eq_false_iff_ne]; exact h10
  replace h11 : (s.toList == [120, 100, 105, 103, 105, 116]) = false := by rw [Lib.toList_data, beq_eq_false_iff_ne]; exact h11
  go_enter Tryd.func154, Tryd.ntmps154
  go_wp2_with fail
  go_ret
  exact ⟨rfl, rfl⟩
theorem rx_codes {s : ByteArray} {l : List (Int × Int)} (h : clsL s.data.toList = some l) (W : World) : Calls Tryd.prog 154 #[.string s] W fun e w' => e = .returned (.slice (some ⟨W.heap.size, 0, none⟩) l.length l.length) ∧ w' = W.alloc (codeObj l) := by
  unfold clsL at h
  by_cases h0 : s.data.toList = [97, 108, 112, 104, 97]
  · rw [if_pos h0] at h
    cases h
    rw [ba_of h0]
    exact rx_codes_alpha W
  rw [if_neg h0] at h
  by_cases h1 : s.data.toList = [100, 105, 103, 105, 116]
  · rw [if_pos h1] at h
    cases h
    rw [ba_of h1]
    exact rx_codes_digit W
  rw [if_neg h1] at h
  by_cases h2 : s.data.toList = [97, 108, 110, 117, 109]
  · rw [if_pos h2] at h
    cases h
    rw [ba_of h2]
    exact rx_codes_alnum W
  rw [if_neg h2] at h
  by_cases h3 : s.data.toList = [117, 112, 112, 101, 114]
  · rw [if_pos h3] at h
    cases h
    rw [ba_of h3]
    exact rx_codes_upper W
  rw [if_neg h3] at h
  by_cases h4 : s.data.toList = [108, 111, 119, 101, 114]
  · rw [if_pos h4] at h
    cases h
    rw [ba_of h4]
    exact rx_codes_lower W
  rw [if_neg h4] at h
  by_cases h5 : s.data.toList = [115, 112, 97, 99, 101]
  · rw [if_pos h5] at h
    cases h
    rw [ba_of h5]
    exact rx_codes_space W
  rw [if_neg h5] at h
  by_cases h6 : s.data.toList = [98, 108, 97, 110, 107]
  · rw [if_pos h6] at h
    cases h
    rw [ba_of h6]
    exact rx_codes_blank W
  rw [if_neg h6] at h
  by_cases h7 : s.data.toList = [112, 117, 110, 99, 116]
  · rw [if_pos h7] at h
    cases h
    rw [ba_of h7]
    exact rx_codes_punct W
  rw [if_neg h7] at h
  by_cases h8 : s.data.toList = [112, 114, 105, 110, 116]
  · rw [if_pos h8] at h
    cases h
    rw [ba_of h8]
    exact rx_codes_print W
  rw [if_neg h8] at h
  by_cases h9 : s.data.toList = [103, 114, 97, 112, 104]
  · rw [if_pos h9] at h
    cases h
    rw [ba_of h9]
    exact rx_codes_graph W
  rw [if_neg h9] at h
  by_cases h10 : s.data.toList = [99, 110, 116, 114, 108]
  · rw [if_pos h10] at h
    cases h
    rw [ba_of h10]
    exact rx_codes_cntrl W
  rw [if_neg h10] at h
  by_cases h11 : s.data.toList = [120, 100, 105, 103, 105, 116]
  · rw [if_pos h11] at h
    cases h
    rw [ba_of h11]
    exact rx_codes_xdigit W
  rw [if_neg h11] at h
  cases h
/-- What a class holds fits. -/
theorem cls_fit {s : List UInt8} {l : List (Int × Int)} (h : clsL s = some l) : l ≠ [] ∧ l.length ≤ 4 ∧ Bnd l ∧ Fit l := by
  unfold clsL at h
  iterate 12
    rcases ite_or h with ⟨_, h⟩ | ⟨_, h⟩
    · cases h
      refine ⟨by simp, by simp, ?_, ?_⟩
      · intro r hr
        simp at hr
        rcases hr with rfl | rfl | rfl | rfl <;> simp
      · intro r hr
        simp at hr
        rcases hr with rfl | rfl | rfl | rfl <;> simp
  cases h
end Go.Proofs.YtdfacbcenogplaaDoor

namespace Go.Proofs.YtdfacbcenogplaaDoor
open Go.RowKit Go.Lib

theorem size_beq {s : ByteArray} {i : Nat} : ((i : Int) == (s.size : Int)) = decide (i = s.size) := by
  rw [Bool.eq_iff_iff, beq_iff_eq, decide_eq_true_eq]
  omega
theorem dg_no {s : ByteArray} {j : Nat} {z : Nat} (hz : j < s.size → (s.get! j).toNat = z) (h : j < s.size → ¬ (48 ≤ z ∧ z ≤ 57)) : rxDg s j = false := by
  unfold rxDg
  rw [decide_eq_false_iff_not]
  rintro ⟨h1, h2⟩
  rw [hz h1] at h2
  exact h h1 h2
set_option maxRecDepth 100000 in
set_option maxHeartbeats 1000000 in
theorem rx_number {W : World} {pb : Nat} {s : ByteArray} {b : Bool} {i n : Nat} (h : Prs W pb s b i n) (hi : i ≤ s.size) (hs : s.size ≤ 1024) :
    Calls Tryd.prog 161 #[pbP pb] W fun e w' => e = .returned (.tuple #[.int .i64 ((numR s i 0).1 : Int), .bool (decide (i < (numR s i 0).2))]) ∧ Stp pb s b (numR s i 0).2 n W w' := by
  have HP := Lib.hid h
  obtain ⟨_, _, h2, _⟩ := h.four
  clear h
  go_enter Tryd.func161, Tryd.ntmps161
  go_wp2_with fail
  go_loopw [5] (fun v wr => ∃ j m : Nat, v = .int .i64 (m : Int) ∧ Stp pb s b j n W wr ∧ numR s i 0 = numR s j m ∧ j ≤ s.size ∧ m ≤ 31 ∧ i ≤ j) (fun _ wr => s.size - (match wr.cell? ⟨pb, 2, none⟩ with | some v => (RowKit.intOf v).toNat | none => 0))
  case atStart => exact ⟨i, 0, rfl, Stp.refl HP.out, rfl, hi, by omega, Nat.le_refl _⟩
  case round =>
    obtain ⟨j, m, rfl, hS, hN, hj, hm, hij⟩ := hrel
    have HS := Lib.hid hS
    have HN := Lib.hid hN
    clear h2 hN
    obtain ⟨q0, _, q2, _, f2, _⟩ := hS.prs.four
    have g0 : (0 : Int) ≤ (j : Int) := by omega
    have g1 : (j : Int) ≤ (s.size : Int) := by omega
    by_cases hlt : j < s.size
    · have CE := Lib.hid (fun k => rx_ended_q (Stp.drewN hS.prs k).prs false (by rw [size_beq, decide_eq_false_iff_not]; omega))
      obtain ⟨z, hz⟩ : ∃ z, (s[j]'hlt).toNat = z := ⟨_, rfl⟩
      have hzi : ((s[j]'hlt).toNat : Int) = (z : Int) := by omega
      have hgz : (s.get! j).toNat = z := by rw [← get!_lt s j hlt]; exact hz
      have z256 : z < 256 := by rw [← hz]; exact UInt8.toNat_lt _
      have HGZ := Lib.hid hgz
      clear hz hgz hS
      by_cases hd : 48 ≤ z ∧ z ≤ 57
      · obtain ⟨d1, d2⟩ := hd
        have HD := Lib.hid (show rxDg s j = true from decide_eq_true ⟨hlt, by rw [HGZ.out]; exact ⟨d1, d2⟩⟩)
        have d1i : (48 : Int) ≤ (z : Int) := by omega
        have d2i : (z : Int) ≤ 57 := by omega
        have d1d : decide ((48 : Int) ≤ (z : Int)) = true := decide_eq_true d1i
        have d2d : decide ((z : Int) ≤ 57) = true := decide_eq_true d2i
        obtain ⟨y, hy⟩ : ∃ y : Nat, min (m * 10 + (z - 48)) 31 = y := ⟨_, rfl⟩
        have hw1 : IntKind.i64.wrap ((m : Int) * 10) = ((m * 10 : Nat) : Int) := by simp [IntKind.wrap, IntKind.bits, IntKind.signed]; omega
        have hw2 : IntKind.u8.wrap ((z : Int) - 48) = ((z - 48 : Nat) : Int) := by simp [IntKind.wrap, IntKind.bits, IntKind.signed]; omega
        have hw3 : IntKind.i64.wrap (((z - 48 : Nat) : Nat) : Int) = ((z - 48 : Nat) : Int) := by simp [IntKind.wrap, IntKind.bits, IntKind.signed]; omega
        have hw4 : IntKind.i64.wrap (((m * 10 : Nat) : Int) + ((z - 48 : Nat) : Int)) = ((m * 10 + (z - 48) : Nat) : Int) := by simp [IntKind.wrap, IntKind.bits, IntKind.signed]; omega
        have hmn : min ((m * 10 + (z - 48) : Nat) : Int) 31 = (y : Int) := by omega
        obtain ⟨j1, hj1⟩ : ∃ j1, j + 1 = j1 := ⟨_, rfl⟩
        have hw5 : IntKind.i64.wrap ((j : Int) + 1) = (j1 : Int) := by simp [IntKind.wrap, IntKind.bits, IntKind.signed]; omega
        go_wp2_with fail
        go_quiet ((go_at_call 77; exact Calls.quiet_of (CE.out _)))
        go_wp2_with fail
        go_quiet (fail)
        go_wp2_with fail
        have hS2 := fun k => (HS.out.dr k).to j1
        refine ⟨⟨j1, y, by rw [← hmn]; simp, hS2 _, ?_, by omega, by omega, by omega⟩, ?_⟩
        · rw [HN.out, numR_step s j m HD.out, HGZ.out, hy, hj1]
        · rw [(hS2 _).prs.four.2.2.1, q2]
          simp [RowKit.intOf]
          omega
      · have HD := Lib.hid (show rxDg s j = false from dg_no (fun _ => HGZ.out) (fun _ => hd))
        have hgt : decide ((i : Int) < (j : Int)) = decide (i < j) := by rw [decide_eq_decide]; omega
        by_cases d1 : 48 ≤ z
        · have d2 : ¬ z ≤ 57 := fun e => hd ⟨d1, e⟩
          have d1i : (48 : Int) ≤ (z : Int) := by omega
          have d2i : ¬ (z : Int) ≤ 57 := by omega
          have d1d : decide ((48 : Int) ≤ (z : Int)) = true := decide_eq_true d1i
          have d2d : decide ((z : Int) ≤ 57) = false := decide_eq_false d2i
          go_wp2_with fail
          go_quiet ((go_at_call 77; exact Calls.quiet_of (CE.out _)))
          go_wp2_with fail
          go_quiet (fail)
          go_wp2_with fail
          go_ret2
          refine ⟨by rw [HN.out, numR_stop s j m HD.out]; simp [], ?_⟩
          rw [HN.out, numR_stop s j m HD.out]
          first | exact (HS.out.dr _).dr _ | exact HS.out.dr _
        · have d1i : ¬ (48 : Int) ≤ (z : Int) := by omega
          have d1d : decide ((48 : Int) ≤ (z : Int)) = false := decide_eq_false d1i
          go_wp2_with fail
          go_quiet ((go_at_call 77; exact Calls.quiet_of (CE.out _)))
          go_wp2_with fail
          go_quiet (fail)
          go_wp2_with fail
          go_ret2
          refine ⟨by rw [HN.out, numR_stop s j m HD.out]; simp [], ?_⟩
          rw [HN.out, numR_stop s j m HD.out]
          first | exact (HS.out.dr _).dr _ | exact HS.out.dr _
    · have CE := Lib.hid (fun k => rx_ended_q (Stp.drewN hS.prs k).prs true (by rw [size_beq, decide_eq_true_eq]; omega))
      have HD := Lib.hid (show rxDg s j = false from dg_no (z := 0) (fun h => absurd h hlt) (fun h => absurd h hlt))
      have hgt : decide ((i : Int) < (j : Int)) = decide (i < j) := by rw [decide_eq_decide]; omega
      clear hS
      go_wp2_with fail
      go_quiet ((go_at_call 77; exact Calls.quiet_of (CE.out _)))
      go_wp2_with fail
      go_quiet (fail)
      go_wp2_with fail
      go_ret2
      refine ⟨by rw [HN.out, numR_stop s j m HD.out]; simp [], ?_⟩
      rw [HN.out, numR_stop s j m HD.out]
      first | exact (HS.out.dr _).dr _ | exact HS.out.dr _
theorem rx_repeats (lo hi : Int) (W : World) : Calls Tryd.prog 106 #[.int .i64 lo, .int .i64 hi] W fun e w' => e = .returned (.bool (repsF lo hi)) ∧ W = w' := by
  by_cases h0 : 0 ≤ lo
  · by_cases h1 : lo ≤ 30
    · by_cases h2 : hi = -1
      · subst h2
        have e : repsF lo (-1) = true := decide_eq_true ⟨h0, h1, .inl rfl⟩
        rw [e]
        go_enter Tryd.func106, Tryd.ntmps106
        go_wp2_with fail
        go_ret
        exact ⟨rfl, rfl⟩
      · have h2b : (hi == -1) = false := by rw [beq_eq_false_iff_ne]; exact h2
        by_cases h3 : lo ≤ hi
        · have e : repsF lo hi = decide (hi ≤ 30) := by
            unfold repsF
            rw [decide_eq_decide]
            omega
          rw [e]
          go_enter Tryd.func106, Tryd.ntmps106
          go_wp2_with fail
          go_ret
          exact ⟨rfl, rfl⟩
        · have e : repsF lo hi = false := decide_eq_false (by omega)
          rw [e]
          go_enter Tryd.func106, Tryd.ntmps106
          go_wp2_with fail
          go_ret
          exact ⟨rfl, rfl⟩
    · have e : repsF lo hi = false := decide_eq_false (by omega)
      rw [e]
      go_enter Tryd.func106, Tryd.ntmps106
      go_wp2_with fail
      go_ret
      exact ⟨rfl, rfl⟩
  · have e : repsF lo hi = false := decide_eq_false (by omega)
    rw [e]
    go_enter Tryd.func106, Tryd.ntmps106
    go_wp2_with fail
    go_ret
    exact ⟨rfl, rfl⟩
/-- 'take' of one byte. -/
theorem rx_take1 {W : World} {pb : Nat} {s : ByteArray} {b : Bool} {i n : Nat} (h : Prs W pb s b i n) (hi : i ≤ s.size) (hs : s.size ≤ 1024) (c : UInt8) (p : Bool) (hp : st1 s i c.toNat = p) :
    Calls Tryd.prog 103 #[pbP pb, .string ⟨#[c]⟩] W fun e w' => e = .returned (.bool p) ∧ Stp pb s b (if p then i + 1 else i) n W w' :=
  rx_take h hi hs ⟨#[c]⟩ p ((pre1 s i c).trans hp) (show 1 ≤ 2 by omega)
theorem rx_stands1 {W : World} {pb : Nat} {s : ByteArray} {b : Bool} {i n : Nat} (h : Prs W pb s b i n) (hi : i ≤ s.size) (c : UInt8) (p : Bool) (hp : st1 s i c.toNat = p) :
    Calls Tryd.prog 126 #[pbP pb, .string ⟨#[c]⟩] W fun e w' => e = .returned (.bool p) ∧ Stp pb s b i n W w' := rx_stands h hi ⟨#[c]⟩ p ((pre1 s i c).trans hp)
theorem rx_stands2 {W : World} {pb : Nat} {s : ByteArray} {b : Bool} {i n : Nat} (h : Prs W pb s b i n) (hi : i ≤ s.size) (c d : UInt8) (p : Bool) (hp : st2 s i c.toNat d.toNat = p) :
    Calls Tryd.prog 126 #[pbP pb, .string ⟨#[c, d]⟩] W fun e w' => e = .returned (.bool p) ∧ Stp pb s b i n W w' := rx_stands h hi ⟨#[c, d]⟩ p ((pre2 s i c d).trans hp)
/-- What 'bounds' answers, and where it stands then. -/
def BndOut (pb : Nat) (s : ByteArray) (b : Bool) (i n : Nat) (W : World) (e : Ending) (w' : World) : Prop :=
  match bndF s i with
  | none => (∃ lo hi : Int, e = .returned (.tuple #[.int .i64 lo, .int .i64 hi, .bool false])) ∧ ∃ j, Stp pb s b j n W w'
  | some (lo, hi, k) => e = .returned (.tuple #[.int .i64 lo, .int .i64 hi, .bool true]) ∧ Stp pb s b k n W w'
set_option maxRecDepth 100000 in
set_option maxHeartbeats 1000000 in
theorem rx_bounds {W : World} {pb : Nat} {s : ByteArray} {b : Bool} {i n : Nat} (h : Prs W pb s b i n) (hi : i ≤ s.size) (hs : s.size ≤ 1024) :
    Calls Tryd.prog 150 #[pbP pb] W (BndOut pb s b i n W) := by
  unfold BndOut
  unfold bndF
  cases h0 : st1 s i 123 with
  | false =>
    have C0 := Lib.hid (rx_take1 h hi hs 123 false h0)
    clear h
    go_enter Tryd.func150, Tryd.ntmps150
    go_wp2_with fail
    refine C0.out.mono ?_
    rintro e w' ⟨rfl, hS⟩
    have HS := Lib.hid hS
    clear hS C0
    go_wp2_with fail
    go_ret3
    exact ⟨⟨_, _, rfl⟩, _, HS.out⟩
  | true =>
    have C0 := Lib.hid (rx_take1 h hi hs 123 true h0)
    have hi1 := st1_lt h0
    have hn := numR_in s (i + 1) hi1
    have CN := Lib.hid (fun W (hP : Prs W pb s b (i + 1) n) => rx_number hP hi1 hs)
    generalize numR s (i + 1) 0 = r at hn CN
    clear h h0
    simp only [if_true]
    by_cases h1 : r.2 = i + 1
    · have hd : decide (i + 1 < r.2) = false := decide_eq_false (by omega)
      rw [hd] at CN
      rw [if_pos h1]
      go_enter Tryd.func150, Tryd.ntmps150
      go_wp2_with fail
      refine C0.out.mono ?_
      rintro e w' ⟨rfl, hS⟩
      have HS := Lib.hid hS
      clear hS C0
      go_wp2_with fail
      refine (CN.out _ HS.out.prs).mono ?_
      rintro e w2 ⟨rfl, hS⟩
      have HS2 := Lib.hid (HS.out.trans hS)
      clear hS HS CN
      go_wp2_with fail
      go_ret3
      exact ⟨⟨_, _, rfl⟩, _, HS2.out⟩
    have hd : decide (i + 1 < r.2) = true := decide_eq_true (by omega)
    rw [hd] at CN
    rw [if_neg h1]
    clear h1
    cases h2 : st1 s r.2 44 with
    | true =>
      have C2 := Lib.hid (fun W (hP : Prs W pb s b r.2 n) => rx_take1 hP hn.2.1 hs 44 true h2)
      have hi2 := st1_lt h2
      have hm := numR_in s (r.2 + 1) hi2
      have CM := Lib.hid (fun W (hP : Prs W pb s b (r.2 + 1) n) => rx_number hP hi2 hs)
      generalize numR s (r.2 + 1) 0 = q at hm CM
      obtain ⟨p3, h3⟩ : ∃ p, st1 s q.2 125 = p := ⟨_, rfl⟩
      have C3 := Lib.hid (fun W (hP : Prs W pb s b q.2 n) => rx_take1 hP hm.2.1 hs 125 p3 h3)
      rw [h3]
      simp only [if_true]
      by_cases h4 : q.2 = r.2 + 1
      · have hd : decide (r.2 + 1 < q.2) = false := decide_eq_false (by omega)
        rw [hd] at CM
        rw [if_pos h4]
        clear h4
        go_enter Tryd.func150, Tryd.ntmps150
        go_wp2_with fail
        refine C0.out.mono ?_
        rintro e w' ⟨rfl, hS⟩
        have HS := Lib.hid hS
        clear hS C0
        go_wp2_with fail
        refine (CN.out _ HS.out.prs).mono ?_
        rintro e w2 ⟨rfl, hS⟩
        have HS2 := Lib.hid (HS.out.trans hS)
        clear hS HS CN
        go_wp2_with fail
        refine (C2.out _ HS2.out.prs).mono ?_
        rintro e w3 ⟨rfl, hS⟩
        have HS3 := Lib.hid (HS2.out.trans hS)
        clear hS HS2 C2
        go_wp2_with fail
        refine (CM.out _ HS3.out.prs).mono ?_
        rintro e w4 ⟨rfl, hS⟩
        have HS4 := Lib.hid (HS3.out.trans hS)
        clear hS HS3 CM
        go_wp2_with fail
        refine (C3.out _ HS4.out.prs).mono ?_
        rintro e w5 ⟨rfl, hS⟩
        have HS5 := Lib.hid (HS4.out.trans hS)
        clear hS HS4 C3
        go_wp2_with fail
        · go_ret3
          exact ⟨rfl, by have h5 := HS5.out; rwa [if_pos (by assumption)] at h5⟩
        · go_ret3
          exact ⟨⟨_, _, rfl⟩, _, HS5.out⟩
      · have hd : decide (r.2 + 1 < q.2) = true := decide_eq_true (by omega)
        rw [hd] at CM
        rw [if_neg h4]
        clear h4
        go_enter Tryd.func150, Tryd.ntmps150
        go_wp2_with fail
        refine C0.out.mono ?_
        rintro e w' ⟨rfl, hS⟩
        have HS := Lib.hid hS
        clear hS C0
        go_wp2_with fail
        refine (CN.out _ HS.out.prs).mono ?_
        rintro e w2 ⟨rfl, hS⟩
        have HS2 := Lib.hid (HS.out.trans hS)
        clear hS HS CN
        go_wp2_with fail
        refine (C2.out _ HS2.out.prs).mono ?_
        rintro e w3 ⟨rfl, hS⟩
        have HS3 := Lib.hid (HS2.out.trans hS)
        clear hS HS2 C2
        go_wp2_with fail
        refine (CM.out _ HS3.out.prs).mono ?_
        rintro e w4 ⟨rfl, hS⟩
        have HS4 := Lib.hid (HS3.out.trans hS)
        clear hS HS3 CM
        go_wp2_with fail
        refine (C3.out _ HS4.out.prs).mono ?_
        rintro e w5 ⟨rfl, hS⟩
        have HS5 := Lib.hid (HS4.out.trans hS)
        clear hS HS4 C3
        go_wp2_with fail
        · go_ret3
          exact ⟨rfl, by have h5 := HS5.out; rwa [if_pos (by assumption)] at h5⟩
        · go_ret3
          exact ⟨⟨_, _, rfl⟩, _, HS5.out⟩
    | false =>
      have C2 := Lib.hid (fun W (hP : Prs W pb s b r.2 n) => rx_take1 hP hn.2.1 hs 44 false h2)
      obtain ⟨p3, h3⟩ : ∃ p, st1 s r.2 125 = p := ⟨_, rfl⟩
      have C3 := Lib.hid (fun W (hP : Prs W pb s b r.2 n) => rx_take1 hP hn.2.1 hs 125 p3 h3)
      rw [h3]
      simp only [Bool.false_eq_true, if_false]
      go_enter Tryd.func150, Tryd.ntmps150
      go_wp2_with fail
      refine C0.out.mono ?_
      rintro e w' ⟨rfl, hS⟩
      have HS := Lib.hid hS
      clear hS C0
      go_wp2_with fail
      refine (CN.out _ HS.out.prs).mono ?_
      rintro e w2 ⟨rfl, hS⟩
      have HS2 := Lib.hid (HS.out.trans hS)
      clear hS HS CN
      go_wp2_with fail
      refine (C2.out _ HS2.out.prs).mono ?_
      rintro e w3 ⟨rfl, hS⟩
      have HS3 := Lib.hid (HS2.out.trans hS)
      clear hS HS2 C2
      go_wp2_with fail
      refine (C3.out _ HS3.out.prs).mono ?_
      rintro e w5 ⟨rfl, hS⟩
      have HS5 := Lib.hid (HS3.out.trans hS)
      clear hS HS3 C3
      go_wp2_with fail
      · go_ret3
        exact ⟨rfl, by have h5 := HS5.out; rwa [if_pos (by assumption)] at h5⟩
      · go_ret3
        exact ⟨⟨_, _, rfl⟩, _, HS5.out⟩
/-- What 'interval' answers. -/
def IvlOut (pb : Nat) (s : ByteArray) (b : Bool) (i n : Nat) (W : World) (e : Ending) (w' : World) : Prop :=
  match ivlF s i with
  | none => e = .returned (.tuple #[.int .i64 0, .int .i64 0, .bool false]) ∧ Stp pb s b i n W w'
  | some (.ok r k) => e = .returned (.tuple #[.int .i64 r.1, .int .i64 r.2, .bool true]) ∧ Stp pb s b k n W w'
  | some (.bad k er) => e = flt k er ∧ Off2 pb pb W w'
set_option maxRecDepth 100000 in
set_option maxHeartbeats 1000000 in
theorem rx_interval {W : World} {pb : Nat} {s : ByteArray} {b : Bool} {i n : Nat} (h : Prs W pb s b i n) (hi : i ≤ s.size) (hs : s.size ≤ 1024) :
    Calls Tryd.prog 138 #[pbP pb] W (IvlOut pb s b i n W) := by
  have CB := rx_bounds h hi hs
  obtain ⟨_, _, h2, _⟩ := h.four
  unfold BndOut at CB
  unfold IvlOut ivlF
  clear h
  cases hb : bndF s i with
  | none =>
    rw [hb] at CB
    have CB := Lib.hid CB
    go_enter Tryd.func138, Tryd.ntmps138
    go_wp2_with fail
    refine (show Calls _ _ _ _ _ from CB.out).mono ?_
    rintro e w' ⟨⟨lo, hi', rfl⟩, j, hS⟩
    have HS := Lib.hid hS
    obtain ⟨_, _, q2, _, f2, _⟩ := hS.prs.four
    clear hS CB h2
    go_wp2_with fail
    go_ret3
    exact ⟨rfl, HS.out.to i⟩
  | some q =>
    obtain ⟨lo, hi', k⟩ := q
    rw [hb] at CB
    have CB := Lib.hid CB
    have hbi := bnd_in hb
    have CR := Lib.hid (fun W => rx_repeats lo hi' W)
    have CW := Lib.hid (fun W => rx_wrong pb i W)
    have CG := Lib.hid (fun W => rx_big pb i W)
    by_cases h3 : 30 < lo ∨ 30 < hi'
    · simp only [if_pos h3]
      by_cases h4 : 30 < lo
      · clear h3
        go_enter Tryd.func138, Tryd.ntmps138
        go_wp2_with fail
        refine (show Calls _ _ _ _ _ from CB.out).mono ?_
        rintro e w' ⟨rfl, hS⟩
        have HS := Lib.hid hS
        clear hS CB
        go_wp2_with fail
        refine (CG.out _).mono ?_
        rintro e w2 ⟨rfl, rfl⟩
        go_wp2_with fail
        first | exact ⟨rfl, HS.out.off⟩ | exact ⟨rfl, rfl, HS.out.off⟩
      · have h5 : 30 < hi' := by omega
        clear h3
        go_enter Tryd.func138, Tryd.ntmps138
        go_wp2_with fail
        refine (show Calls _ _ _ _ _ from CB.out).mono ?_
        rintro e w' ⟨rfl, hS⟩
        have HS := Lib.hid hS
        clear hS CB
        go_wp2_with fail
        refine (CG.out _).mono ?_
        rintro e w2 ⟨rfl, rfl⟩
        go_wp2_with fail
        first | exact ⟨rfl, HS.out.off⟩ | exact ⟨rfl, rfl, HS.out.off⟩
    · simp only [if_neg h3]
      have h4 : ¬ 30 < lo := by omega
      have h5 : ¬ 30 < hi' := by omega
      clear h3
      cases hr : repsF lo hi' with
      | true =>
        rw [hr] at CR
        simp only [if_true]
        go_enter Tryd.func138, Tryd.ntmps138
        go_wp2_with fail
        refine (show Calls _ _ _ _ _ from CB.out).mono ?_
        rintro e w' ⟨rfl, hS⟩
        have HS := Lib.hid hS
        clear hS CB
        go_wp2_with fail
        refine (CR.out _).mono ?_
        rintro e w2 ⟨rfl, rfl⟩
        go_wp2_with fail
        go_ret3
        exact ⟨rfl, HS.out⟩
      | false =>
        rw [hr] at CR
        simp only [Bool.false_eq_true, if_false]
        go_enter Tryd.func138, Tryd.ntmps138
        go_wp2_with fail
        refine (show Calls _ _ _ _ _ from CB.out).mono ?_
        rintro e w' ⟨rfl, hS⟩
        have HS := Lib.hid hS
        clear hS CB
        go_wp2_with fail
        refine (CR.out _).mono ?_
        rintro e w2 ⟨rfl, rfl⟩
        go_wp2_with fail
        refine (CW.out _).mono ?_
        rintro e w2 ⟨rfl, rfl⟩
        go_wp2_with fail
        first | exact ⟨rfl, HS.out.off⟩ | exact ⟨rfl, rfl, HS.out.off⟩
end Go.Proofs.YtdfacbcenogplaaDoor
