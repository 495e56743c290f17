/- Layer 1: the law UstrAll, walked. -/
import Derived.Test.YtaemijgfngdjlaaDoorUstrS
namespace Go.Proofs.YtaemijgfngdjlaaDoor
open Go.RowKit Go.Lib Go.Shelf
attribute [local go_sem] Oper.semAt_some

/-- Four new blocks. -/
theorem push4 (h : Array Obj) (a b c d : Obj) (H : Array Obj) (hH : H = (((h.push a).push b).push c).push d) :
    H.size = h.size + 4 ∧ H[h.size]? = some a ∧ H[h.size + 1]? = some b ∧ H[h.size + 1 + 1]? = some c ∧ H[h.size + 1 + 1 + 1]? = some d := by
  subst hH
  simp only [Array.getElem?_push, Array.size_push]
  refine ⟨trivial, ?_, ?_, ?_, ?_⟩
  all_goals
    repeat' split
  all_goals first | rfl | (exfalso; omega) | simp_all
theorem Boxed.below {W W' : World} {B n : Nat} {t : TypeId} {v : Value} (h : Boxed W B t v) (hb : Below n W W') (hn : B < n) : Boxed W' B t v := (hb.block B hn).trans h

/-- What lies there between two characters: the law's variables, the places, how many characters have come. -/
def AllI (s : ByteArray) (b : Bool) (early : Int) (N B7 g cap B9 B10 : Nat) (r : Int) (n : Int) (W : World) : Prop :=
  Boxed W N 9 (.string s) ∧ Boxed W (N + 1) 3 (.int .i64 early) ∧ Boxed W (N + 1 + 1) 4 (.bool b) ∧ Boxed W (N + 1 + 1 + 1) 4 (.bool false) ∧
  Boxed W B7 29 (.slice (some ⟨g, 0, none⟩) (cnt s b + 1) cap) ∧ Boxed W B9 3 (.int .i64 r) ∧ Boxed W B10 3 (.int .i64 n) ∧ (∀ i : Nat, i ≤ cnt s b → W.cell? ⟨g, i, none⟩ = some (.int .i64 (pl s b i)))
theorem AllI.kept {s : ByteArray} {b : Bool} {early : Int} {N B7 g cap B9 B10 : Nat} {r n : Int} {W W' : World} {row : Option Nat} (h : AllI s b early N B7 g cap B9 B10 r n W) (hg : W.grownBy W' row) (hr : ∀ q, row = some q → ∃ o : Obj, W.heap[q]? = some o ∧ o.isCells = false) : AllI s b early N B7 g cap B9 B10 r n W' := by
  obtain ⟨h3, h4, h5, h6, h7, h9, h10, hc⟩ := h
  have hne : ∀ {c : Nat} {t : TypeId} {v : Value}, Boxed W c t v → Boxed W' c t v := fun {c t v} hx => hx.kept hg (fun e => by
    obtain ⟨o, ho, hc⟩ := hr c e.symm
    rw [hx] at ho; cases ho; cases hc)
  exact ⟨hne h3, hne h4, hne h5, hne h6, hne h7, hne h9, hne h10, fun i hi => cell_kept (hc i hi) hg hr⟩
theorem AllI.own {s : ByteArray} {b : Bool} {early : Int} {N B7 g cap B9 B10 : Nat} {r : Int} {β : Type} (f : β → Int) : Own (fun (p : β) W => AllI s b early N B7 g cap B9 B10 r (f p) W) :=
  fun _ _ _ _ hs hg hr => AllI.kept hs hg hr
/-- One more has come. -/
theorem AllI.set {s : ByteArray} {b : Bool} {early : Int} {N B7 g cap B9 B10 : Nat} {r n : Int} {W : World} (h : AllI s b early N B7 g cap B9 B10 r n W) (hlt : N + 4 ≤ B7 ∧ B7 < B9 ∧ B9 < B10 ∧ g < B7) (m : Int) : AllI s b early N B7 g cap B9 B10 r m (W.setCell ⟨B10, 0, none⟩ (.int .i64 m)) := by
  obtain ⟨h3, h4, h5, h6, h7, h9, h10, hc⟩ := h
  refine ⟨h3.other (by omega) _, h4.other (by omega) _, h5.other (by omega) _, h6.other (by omega) _, h7.other (by omega) _, h9.other (by omega) _, h10.set _, fun i hi => ?_⟩
  rw [World.cell?_setCell_other _ _ _ _ (by intro e; cases e; omega)]
  exact hc i hi

set_option maxRecDepth 100000 in
set_option maxHeartbeats 4000000 in
theorem ustrAll_in (s : ByteArray) (early : Int) (b : Bool) (w : World) (hs : s.size ≤ 1048576) (hT : Utf8Tabs 0 1 w) :
    CallsIn Fence.wide 10 Tryd.prog 5 #[.string s, .int .i64 early, .bool b] w fun e w' => e = .returned (.bool true) ∧ Below w.heap.size w w' := by
  have hcl := cnt_le s b
  refine callsIn_of_wp_marks Tryd.func5 rfl trivial ?_ rfl
  simp only [Tryd.ntmps5, List.size_toArray, List.length_cons, List.length_nil, Nat.reduceAdd, Nat.reduceSub, Array.replicate_succ, Array.replicate_zero, List.push_toArray, List.append_toArray, List.nil_append, List.cons_append]
  gi_wp2_with fail
  obtain ⟨W0, hW0⟩ : ∃ W0, (((w.alloc (.cells #[.string s] 9)).alloc (.cells #[.int .i64 early] 3)).alloc (.cells #[.bool b] 4)).alloc (.cells #[.bool false] 4) = W0 := ⟨_, rfl⟩
  rw [hW0]
  have hb0 : Below w.heap.size w W0 := by
    rw [← hW0]
    exact ((((Below.refl _ _).alloc (Nat.le_refl _) _).alloc (by simp) _).alloc (by simp; omega) _).alloc (by simp; omega) _
  obtain ⟨hsz0, x3, x4, x5, x6⟩ := push4 w.heap (.cells #[.string s] 9) (.cells #[.int .i64 early] 3) (.cells #[.bool b] 4) (.cells #[.bool false] 4) W0.heap (by rw [← hW0]; rfl)
  clear hW0
  refine ⟨trivial, (callsIn_wide.2 (fixed_any W0 (tabs_below hT hb0 (Nat.le_refl _)))).mono ?_⟩
  rintro e w1 ⟨rfl, hb1⟩
  have hB1 := hb0.trans (hb1.mono hb0.size)
  have hsz1 := hb1.size
  have y3 : Boxed w1 w.heap.size 9 (.string s) := Boxed.below x3 hb1 (by omega)
  have y4 : Boxed w1 (w.heap.size + 1) 3 (.int .i64 early) := Boxed.below x4 hb1 (by omega)
  have y5 : Boxed w1 (w.heap.size + 1 + 1) 4 (.bool b) := Boxed.below x5 hb1 (by omega)
  have y6 : Boxed w1 (w.heap.size + 1 + 1 + 1) 4 (.bool false) := Boxed.below x6 hb1 (by omega)
  have c3 := y3.cell
  have c5 := y5.cell
  clear x3 x4 x5 x6 hb1 hb0
  have CS := Lib.hid (starts_row s b w1 hs)
  have HT := Lib.hid hT; clear hT
  gi_wp2_with fail
  refine ⟨trivial, (callsIn_wide.2 CS.out).mono ?_⟩
  rintro e w2 ⟨g, cap, rfl, hcap, hg, hrow, hb2⟩
  have hB2 := hB1.trans (hb2.mono hB1.size)
  have hsz2 := hb2.size
  have z3 := Boxed.below y3 hb2 (by omega)
  have z4 := Boxed.below y4 hb2 (by omega)
  have z5 := Boxed.below y5 hb2 (by omega)
  have z6 := Boxed.below y6 hb2 (by omega)
  have hgl : g < w2.heap.size := lt_of_cell (hrow 0 (Nat.zero_le _))
  have HROW := Lib.hid hrow; clear hrow
  clear c3 c5 y3 y4 y5 y6 hb2 hB1 CS
  have c3 := fun o => (z3.alloc o).cell
  have c5 := fun o => (z5.alloc o).cell
  gi_wp2_with fail
  refine ⟨trivial, (callsIn_wide.2 (all_any _ _ _)).mono ?_⟩
  rintro e w3 ⟨rfl, hw3⟩
  have v3 : Boxed w3 w.heap.size 9 (.string s) := by rw [← hw3]; exact ((z3.alloc _).alloc _).alloc _
  have v4 : Boxed w3 (w.heap.size + 1) 3 (.int .i64 early) := by rw [← hw3]; exact ((z4.alloc _).alloc _).alloc _
  have v5 : Boxed w3 (w.heap.size + 1 + 1) 4 (.bool b) := by rw [← hw3]; exact ((z5.alloc _).alloc _).alloc _
  have v6 : Boxed w3 (w.heap.size + 1 + 1 + 1) 4 (.bool false) := by rw [← hw3]; exact ((z6.alloc _).alloc _).alloc _
  have v7 : Boxed w3 w2.heap.size 29 (.slice (some ⟨g, 0, none⟩) (cnt s b + 1) cap) := by rw [← hw3]; exact ((Boxed.new w2 _ _).alloc _).alloc _
  have va : Boxed w3 (w2.heap.size + 1) 9 (.string s) := by
    rw [← hw3]
    have := Boxed.new (w2.alloc (.cells #[.slice (some ⟨g, 0, none⟩) (cnt s b + 1) cap] 29)) 9 (.string s)
    rw [World.size_alloc] at this
    exact this.alloc _
  have vb : Boxed w3 (w2.heap.size + 1 + 1) 4 (.bool b) := by
    rw [← hw3]
    have := Boxed.new ((w2.alloc (.cells #[.slice (some ⟨g, 0, none⟩) (cnt s b + 1) cap] 29)).alloc (.cells #[.string s] 9)) 4 (.bool b)
    rw [World.size_alloc, World.size_alloc] at this
    exact this
  have hsz3 : w3.heap.size = w2.heap.size + 3 := by rw [← hw3]; simp
  have hB3 : Below w.heap.size w w3 := by
    rw [← hw3]
    exact ((hB2.alloc (by omega) _).alloc (by simp; omega) _).alloc (by simp; omega) _
  have hrow3 : ∀ i : Nat, i ≤ cnt s b → w3.cell? ⟨g, i, none⟩ = some (.int .i64 (pl s b i)) := fun i hi => by
    rw [← hw3]
    have := (((Below.refl w2.heap.size w2).alloc (Nat.le_refl _) (.cells #[.slice (some ⟨g, 0, none⟩) (cnt s b + 1) cap] 29)).alloc (by simp) (.cells #[.string s] 9)).alloc (by simp; omega) (.cells #[.bool b] 4)
    exact (this.cell (p := ⟨g, i, none⟩) hgl).trans (HROW.out i hi)
  rw [World.size_alloc]
  have HR3 := Lib.hid hrow3
  have HS3 := Lib.hid hsz3
  clear hw3 c3 c5 z3 z4 z5 z6 HROW hrow3 hsz3
  gi_wp2
  refine wpIn_loop_rounds 3 ?_
  rw [roundsIn_succ]
  gi_wp2
  obtain ⟨W4, hW4⟩ : ∃ W4, (w3.alloc (.cells #[.int .i64 0] 3)).alloc (.cells #[.int .i64 0] 3) = W4 := ⟨_, rfl⟩
  rw [hW4]
  have hsz4 : W4.heap.size = w3.heap.size + 2 := by rw [← hW4]; simp
  have hI4 : AllI s b early w.heap.size w2.heap.size g cap w3.heap.size (w3.heap.size + 1) 0 ((0 : Nat) : Int) W4 := by
    rw [← hW4]
    refine ⟨(v3.alloc _).alloc _, (v4.alloc _).alloc _, (v5.alloc _).alloc _, (v6.alloc _).alloc _, (v7.alloc _).alloc _, (Boxed.new w3 _ _).alloc _, ?_, fun i hi => ?_⟩
    · have := Boxed.new (w3.alloc (.cells #[.int .i64 0] 3)) 3 (.int .i64 0)
      rw [World.size_alloc] at this
      exact this
    · have := ((Below.refl w3.heap.size w3).alloc (Nat.le_refl _) (.cells #[.int .i64 0] 3)).alloc (by simp) (.cells #[.int .i64 0] 3)
      exact (this.cell (p := ⟨g, i, none⟩) (show g < w3.heap.size by have := HS3.out; omega)).trans (HR3.out i hi)
  have hB4 : Below w.heap.size w W4 := by
    rw [← hW4]
    have := HS3.out
    exact (hB3.alloc (by omega) _).alloc (by simp; omega) _
  have hTW : Utf8Tabs 0 1 W4 := tabs_below HT.out hB4 (Nat.le_refl _)
  have va4 : Boxed W4 (w2.heap.size + 1) 9 (.string s) := by rw [← hW4]; exact (va.alloc _).alloc _
  have vb4 : Boxed W4 (w2.heap.size + 1 + 1) 4 (.bool b) := by rw [← hW4]; exact (vb.alloc _).alloc _
  clear hW4
  refine wpIn_rangeFunc_ownF rfl (by omega) (gf := 34) (lb := #[.pointer (some ⟨w2.heap.size + 1, 0, none⟩), .pointer (some ⟨w2.heap.size + 1 + 1, 0, none⟩)]) rfl trivial (enters_of Tryd.func34 (by kernel_rfl) rfl)
    (all_stops 9 (by omega) s b (w2.heap.size + 1) (w2.heap.size + 1 + 1) W4 (by omega) va4.cell vb4.cell hTW) KeepsAt.trans
    (fun W l o o' hl _ _ _ => KeepsAt.putObj W4.heap.size (fun c hc => by have := tabs_lt hTW; have := HS3.out; simp at hc; omega) W l o' hl) (Below.refl _ _) (fun _ => rfl)
    (fun pre W => AllI s b early w.heap.size w2.heap.size g cap w3.heap.size (w3.heap.size + 1) 0 (pre.length : Nat) W ∧ (w3.heap.size + 2 ≤ W.heap.size ∧ ((Boxed W (w2.heap.size + 1) 9 (.string s) ∧ Boxed W (w2.heap.size + 1 + 1) 4 (.bool b)) ∧ Below w.heap.size w W)))
    (fun c pre W => (c = .ret ∧ pre ≠ List.range pre.length) ∨ (c = .exit 2 ∧ AllI s b early w.heap.size w2.heap.size g cap w3.heap.size (w3.heap.size + 1) 0 (pre.length : Nat) W ∧ (w3.heap.size + 2 ≤ W.heap.size ∧ ((Boxed W (w2.heap.size + 1) 9 (.string s) ∧ Boxed W (w2.heap.size + 1 + 1) 4 (.bool b)) ∧ Below w.heap.size w W)))) ?hI ?hIx ⟨hI4, by omega, ⟨va4, vb4⟩, hB4⟩
    (fun k => { tmps := #[.string s, .int .i64 early, .bool b, .pointer (some ⟨w.heap.size, 0, none⟩), .pointer (some ⟨w.heap.size + 1, 0, none⟩), .pointer (some ⟨w.heap.size + 1 + 1, 0, none⟩), .pointer (some ⟨w.heap.size + 1 + 1 + 1, 0, none⟩), .pointer (some ⟨w2.heap.size, 0, none⟩), .func (.func 34) #[] #[.pointer (some ⟨w2.heap.size + 1, 0, none⟩), .pointer (some ⟨w2.heap.size + 1 + 1, 0, none⟩)], .pointer (some ⟨w3.heap.size, 0, none⟩), .pointer (some ⟨w3.heap.size + 1, 0, none⟩), .int .i64 (pl s b k), .int .i64 (cod s b (pl s b k)), undef, undef, .bool true, .bool false, .string s, .bool b, .slice (some ⟨g, 0, none⟩) (cnt s b + 1) cap, .string s, .bool b, .func (.func 34) #[] #[.pointer (some ⟨w2.heap.size + 1, 0, none⟩), .pointer (some ⟨w2.heap.size + 1 + 1, 0, none⟩)], .int .i64 0, .bool true, undef, undef, .func (.func 34) #[] #[.pointer (some ⟨w2.heap.size + 1, 0, none⟩), .pointer (some ⟨w2.heap.size + 1 + 1, 0, none⟩)], .int .i64 (pl s b k), .int .i64 (cod s b (pl s b k)), undef, undef, undef, undef, undef, undef, undef, undef, undef, undef, undef, undef, undef, undef, undef, undef, undef, undef, undef, undef, undef, undef, undef, undef, undef, undef, undef, undef, undef, undef, undef, undef, undef, undef, undef, undef, undef, undef, undef, undef, undef, undef, undef, undef], defers := [] }) ?assign ?body ?done ?stop
  case hI =>
    exact OwnFrom.and (Own.from (AllI.own fun p : List Nat => (p.length : Int)) _) (OwnFrom.and (fun _ A B row hs hg _ => by have := hg.size; omega) (OwnFrom.and (OwnFrom.and (Own.from (boxed_own _ _ _) _) (Own.from (boxed_own _ _ _) _)) (ownFrom_below (Nat.le_refl _) (by have := HS3.out; omega))))
  case hIx =>
    rintro c pre A B row (⟨h1, h2⟩ | ⟨h1, h2, h3, ⟨h5, h6⟩, h4⟩) hg hr
    · exact .inl ⟨h1, h2⟩
    · exact .inr ⟨h1, AllI.kept h2 hg (fun r e => (hr r e).2), by have := hg.size; omega, ⟨boxed_own (β := Unit) (w2.heap.size + 1) 9 (fun _ => .string s) () A B row h5 hg (fun r e => (hr r e).2), boxed_own (β := Unit) (w2.heap.size + 1 + 1) 4 (fun _ => .bool b) () A B row h6 hg (fun r e => (hr r e).2)⟩, ownFrom_below (β := Unit) (Nat.le_refl _) (by have := HS3.out; omega) () A B row h4 hg hr⟩
  case assign =>
    intro l k W K hK
    gi_wp2
    exact hK
  case body =>
    rintro l pre k W ⟨hI, hz, ⟨hza, hzb⟩, hB⟩ hlen
    have hlt : w.heap.size + 4 ≤ w2.heap.size ∧ w2.heap.size < w3.heap.size ∧ w3.heap.size < w3.heap.size + 1 ∧ g < w2.heap.size := by have := HS3.out; omega
    have hset := hI.set hlt ((pre.length : Int) + 1)
    obtain ⟨h3, h4, h5, h6, h7, h9, h10, hc⟩ := hI
    have c3 := h3.cell
    have c4 := h4.cell
    have c5 := h5.cell
    have c6 := h6.cell
    have f6 := h6.frozen
    have c7 := h7.cell
    have c9 := h9.cell
    have c10 := h10.cell
    have f10 := h10.frozen
    have cg := hc pre.length (by omega)
    have cN := fun (W : World) => refNext_any s (pl s b k : Nat) b W (by omega)
    rw [nextZ_eq] at cN
    have hpn : pre ++ [k] = List.range (pre ++ [k]).length → pl s b k = pl s b pre.length := by
      intro he
      rw [List.length_append, List.length_cons, List.length_nil, Nat.zero_add] at he
      rw [List.range_succ] at he
      obtain ⟨h1, h2⟩ := List.append_inj' he rfl
      obtain rfl : k = pre.length := by simpa using h2
      rfl
    have hl1 : (((pre ++ [k]).length : Nat) : Int) = (pre.length : Int) + 1 := by simp
    obtain ⟨n, hn⟩ : ∃ n, pre.length = n := ⟨_, rfl⟩
    rw [hn] at hset c10 cg hpn hlen
    rw [hn] at hl1
    have hplk := pl_le s b k
    have hpln := pl_le s b n
    obtain ⟨p, hp⟩ : ∃ p, pl s b k = p := ⟨_, rfl⟩
    obtain ⟨q, hq⟩ : ∃ q, pl s b n = q := ⟨_, rfl⟩
    obtain ⟨C, hC⟩ : ∃ C, cod s b (pl s b k) = C := ⟨_, rfl⟩
    obtain ⟨S, hS⟩ : ∃ S, wid s b (pl s b k) = S := ⟨_, rfl⟩
    rw [hC, hS, hp] at cN
    rw [hC, hp]
    rw [hp] at hpn hplk
    rw [hq] at cg hpn hpln
    have hB' : Below w.heap.size w (W.setCell ⟨w3.heap.size + 1, 0, none⟩ (.int .i64 ((n : Int) + 1))) := hB.setCell (by show w.heap.size ≤ w3.heap.size + 1; omega) _
    clear hn hp hq hC hS h3 h4 h5 h6 h7 h9 h10 hc
    have HSET := Lib.hid hset; clear hset
    have HPN := Lib.hid hpn; clear hpn
    have HL := Lib.hid hl1; clear hl1
    have CN := Lib.hid cN; clear cN
    have HB := Lib.hid hB'; clear hB'
    have HB0 := Lib.hid hB; clear hB
    have hza' : Boxed (W.setCell ⟨w3.heap.size + 1, 0, none⟩ (.int .i64 ((n : Int) + 1))) (w2.heap.size + 1) 9 (.string s) := hza.other (by have := HS3.out; omega) _
    have hzb' : Boxed (W.setCell ⟨w3.heap.size + 1, 0, none⟩ (.int .i64 ((n : Int) + 1))) (w2.heap.size + 1 + 1) 4 (.bool b) := hzb.other (by have := HS3.out; omega) _
    clear hza hzb
    have HL4 := Lib.hid hsz4; clear hsz4
    clear v3 v4 v5 v6 v7 va vb va4 vb4 hI4 hB4 hTW hB3 hB2
    by_cases hpq : p = q
    · subst hpq
      by_cases hea : early ≤ (n : Int) + 1
      · gi_wp2_with fail
        refine ⟨trivial, (CallsIn.inRound l (callsIn_wide.2 (CN.out _))).mono ?_⟩
        rintro e w' ⟨rfl, rfl⟩
        gi_wp2
        exact ⟨KeepsOthers.setCell _ _ _, .inr ⟨rfl, by rw [HL.out]; exact HSET.out, by simpa using hz, ⟨hza', hzb'⟩, HB.out⟩⟩
      · gi_wp2_with fail
        refine ⟨trivial, (CallsIn.inRound l (callsIn_wide.2 (CN.out _))).mono ?_⟩
        rintro e w' ⟨rfl, rfl⟩
        gi_wp2
        refine ⟨KeepsOthers.setCell _ _ _, KeepsAt.of_grown (grownBy_setCell' _ _ _) (fun c hc => ?_), by rw [HL.out]; exact HSET.out, by simpa using hz, ⟨hza', hzb'⟩, HB.out⟩
        have := tabs_lt HT.out
        have := HS3.out
        simp only [List.mem_cons, List.not_mem_nil, or_false] at hc
        simp only [ne_eq, Option.some.injEq]
        omega
    · have hpq' : ((p : Int) == (q : Int)) = false := by simp; omega
      have hpq2 : ((p : Int) != (q : Int)) = true := by simp; omega
      gi_wp2_with fail
      refine ⟨trivial, (CallsIn.inRound l (callsIn_wide.2 (CN.out _))).mono ?_⟩
      rintro e w' ⟨rfl, rfl⟩
      gi_wp2
      exact ⟨KeepsOthers.setCell _ _ _, .inl ⟨rfl, fun he => hpq (HPN.out he)⟩⟩
  case' done =>
    rintro D xs W hD rfl ⟨hI, hz, ⟨hza, hzb⟩, hB⟩ hK
    obtain ⟨n, hn⟩ : ∃ n : Int, AllI s b early w.heap.size w2.heap.size g cap w3.heap.size (w3.heap.size + 1) 0 n W := ⟨_, hI⟩
    clear hI
  case' stop =>
    rintro D c pre W hD ⟨k, _, rfl⟩ (⟨_, h2⟩ | ⟨rfl, hI, hz, ⟨hza, hzb⟩, hB⟩) hK
    · exact absurd (by simp) h2
    obtain ⟨n, hn⟩ : ∃ n : Int, AllI s b early w.heap.size w2.heap.size g cap w3.heap.size (w3.heap.size + 1) 0 n W := ⟨_, hI⟩
    clear hI
  all_goals
    obtain ⟨h3, h4, h5, h6, h7, h9, h10, hc⟩ := hn
    have c9 := h9.cell
    have HC := Lib.hid hc; clear hc
    have HSZ := Lib.hid hz; clear hz
    have HL4 := Lib.hid hsz4; clear hsz4
    clear v3 v4 v5 v6 v7 va vb hI4 hB4 hTW hB3 hB2
    gi_wp2
    rw [roundsIn_succ]
    have c9n : (W.alloc (.cells #[.int .i64 1] 3)).cell? ⟨W.heap.size, 0, none⟩ = some (.int .i64 1) := (Boxed.new W 3 (.int .i64 1)).cell
    gi_wp2
    obtain ⟨V, hV⟩ : ∃ V, (W.alloc (.cells #[.int .i64 1] 3)).alloc (.cells #[.int .i64 0] 3) = V := ⟨_, rfl⟩
    rw [hV]
    clear c9 c9n
    have hsz5 : V.heap.size = W.heap.size + 2 := by rw [← hV]; simp
    have hI5 : AllI s b early w.heap.size w2.heap.size g cap W.heap.size (W.heap.size + 1) 1 ((0 : Nat) : Int) V := by
      rw [← hV]
      refine ⟨(h3.alloc _).alloc _, (h4.alloc _).alloc _, (h5.alloc _).alloc _, (h6.alloc _).alloc _, (h7.alloc _).alloc _, (Boxed.new W _ _).alloc _, ?_, fun i hi => ?_⟩
      · have := Boxed.new (W.alloc (.cells #[.int .i64 1] 3)) 3 (.int .i64 0)
        rw [World.size_alloc] at this
        exact this
      · have := ((Below.refl W.heap.size W).alloc (Nat.le_refl _) (.cells #[.int .i64 1] 3)).alloc (by simp) (.cells #[.int .i64 0] 3)
        exact (this.cell (p := ⟨g, i, none⟩) (show g < W.heap.size by have := HS3.out; have := HSZ.out; omega)).trans (HC.out i hi)
    have hB5 : Below w.heap.size w V := by
      rw [← hV]
      have := HS3.out
      have := HSZ.out
      exact (hB.alloc (by omega) _).alloc (by simp; omega) _
    have hTV : Utf8Tabs 0 1 V := tabs_below HT.out hB5 (Nat.le_refl _)
    have va5 : Boxed V (w2.heap.size + 1) 9 (.string s) := by rw [← hV]; exact (hza.alloc _).alloc _
    have vb5 : Boxed V (w2.heap.size + 1 + 1) 4 (.bool b) := by rw [← hV]; exact (hzb.alloc _).alloc _
    have hKV : V.heap[D]? = some (.deferred (some [])) := by rw [← hV]; exact ((KeepsOthers.alloc W _).trans (KeepsOthers.alloc _ _)).same D _ hK rfl
    clear hV h3 h4 h5 h6 h7 h9 h10 hB
    refine wpIn_rangeFunc_ownF rfl (by omega) (gf := 34) (lb := #[.pointer (some ⟨w2.heap.size + 1, 0, none⟩), .pointer (some ⟨w2.heap.size + 1 + 1, 0, none⟩)]) rfl trivial (enters_of Tryd.func34 (by kernel_rfl) rfl)
      (all_stops 9 (by omega) s b (w2.heap.size + 1) (w2.heap.size + 1 + 1) V (by omega) va5.cell vb5.cell hTV) KeepsAt.trans
      (fun X l o o' hl _ _ _ => KeepsAt.putObj V.heap.size (fun c hc => by have := tabs_lt hTV; have := HS3.out; have := HSZ.out; simp at hc; omega) X l o' hl) (Below.refl _ _) (fun _ => rfl)
      (fun pre X => AllI s b early w.heap.size w2.heap.size g cap W.heap.size (W.heap.size + 1) 1 (pre.length : Nat) X ∧ (W.heap.size + 2 ≤ X.heap.size ∧ (X.heap[D]? = some (.deferred (some [])) ∧ Below w.heap.size w X)))
      (fun c pre _ => c = .ret ∧ pre ≠ List.range pre.length) ?hI2 ?hIx2 ⟨hI5, by omega, hKV, hB5⟩
      (fun k => { tmps := #[.string s, .int .i64 early, .bool b, .pointer (some ⟨w.heap.size, 0, none⟩), .pointer (some ⟨w.heap.size + 1, 0, none⟩), .pointer (some ⟨w.heap.size + 1 + 1, 0, none⟩), .pointer (some ⟨w.heap.size + 1 + 1 + 1, 0, none⟩), .pointer (some ⟨w2.heap.size, 0, none⟩), .func (.func 34) #[] #[.pointer (some ⟨w2.heap.size + 1, 0, none⟩), .pointer (some ⟨w2.heap.size + 1 + 1, 0, none⟩)], .pointer (some ⟨W.heap.size, 0, none⟩), .pointer (some ⟨W.heap.size + 1, 0, none⟩), .int .i64 (pl s b k), .int .i64 (cod s b (pl s b k)), undef, undef, .bool true, .bool false, .string s, .bool b, .slice (some ⟨g, 0, none⟩) (cnt s b + 1) cap, .string s, .bool b, .func (.func 34) #[] #[.pointer (some ⟨w2.heap.size + 1, 0, none⟩), .pointer (some ⟨w2.heap.size + 1 + 1, 0, none⟩)], .int .i64 1, .bool true, .int .i64 0, .int .i64 1, .func (.func 34) #[] #[.pointer (some ⟨w2.heap.size + 1, 0, none⟩), .pointer (some ⟨w2.heap.size + 1 + 1, 0, none⟩)], .int .i64 (pl s b k), .int .i64 (cod s b (pl s b k)), undef, undef, undef, undef, undef, undef, undef, undef, undef, undef, undef, undef, undef, undef, undef, undef, undef, undef, undef, undef, undef, undef, undef, undef, undef, undef, undef, undef, undef, undef, undef, undef, undef, undef, .int .i64 0, .bool false, .bool false, undef, undef, undef, undef, undef, .bool false, .int .i64 0], defers := [] }) ?assign2 ?body2 ?done2 ?stop2
    case hI2 =>
      exact OwnFrom.and (Own.from (AllI.own fun p : List Nat => (p.length : Int)) _) (OwnFrom.and (fun _ A B row hs hg _ => by have := hg.size; omega) (OwnFrom.and (fun _ A B row hs hg hr => (hg.block D (Array.getElem?_eq_some_iff.1 hs).1 (fun e => by have := (hr D e.symm).1; have := (Array.getElem?_eq_some_iff.1 hK).1; omega)).trans hs) (ownFrom_below (Nat.le_refl _) (by have := HS3.out; have := HSZ.out; omega))))
    case hIx2 =>
      rintro c pre A B row h1 hg hr
      exact h1
    case assign2 =>
      intro l k X K hK
      gi_wp2
      exact hK
    case body2 =>
      rintro l pre k X ⟨hI, hz, hKD, hB⟩ hlen
      have hlt : w.heap.size + 4 ≤ w2.heap.size ∧ w2.heap.size < W.heap.size ∧ W.heap.size < W.heap.size + 1 ∧ g < w2.heap.size := by have := HS3.out; have := HSZ.out; omega
      have hset := hI.set hlt ((pre.length : Int) + 1)
      obtain ⟨h3, h4, h5, h6, h7, h9, h10, hc⟩ := hI
      have c3 := h3.cell
      have c4 := h4.cell
      have c5 := h5.cell
      have c6 := h6.cell
      have f6 := h6.frozen
      have c7 := h7.cell
      have c9 := h9.cell
      have c10 := h10.cell
      have f10 := h10.frozen
      have cg := hc pre.length (by omega)
      have cN := fun (Y : World) => refNext_any s (pl s b k : Nat) b Y (by omega)
      rw [nextZ_eq] at cN
      have hpn : pre ++ [k] = List.range (pre ++ [k]).length → pl s b k = pl s b pre.length := by
        intro he
        rw [List.length_append, List.length_cons, List.length_nil, Nat.zero_add] at he
        rw [List.range_succ] at he
        obtain ⟨h1, h2⟩ := List.append_inj' he rfl
        obtain rfl : k = pre.length := by simpa using h2
        rfl
      have hl1 : (((pre ++ [k]).length : Nat) : Int) = (pre.length : Int) + 1 := by simp
      obtain ⟨n, hn⟩ : ∃ n, pre.length = n := ⟨_, rfl⟩
      rw [hn] at hset c10 cg hpn hlen
      rw [hn] at hl1
      have hplk := pl_le s b k
      have hpln := pl_le s b n
      obtain ⟨p, hp⟩ : ∃ p, pl s b k = p := ⟨_, rfl⟩
      obtain ⟨q, hq⟩ : ∃ q, pl s b n = q := ⟨_, rfl⟩
      obtain ⟨C, hC⟩ : ∃ C, cod s b (pl s b k) = C := ⟨_, rfl⟩
      obtain ⟨S, hS⟩ : ∃ S, wid s b (pl s b k) = S := ⟨_, rfl⟩
      rw [hC, hS, hp] at cN
      rw [hC, hp]
      rw [hp] at hpn hplk
      rw [hq] at cg hpn hpln
      have hB' : Below w.heap.size w (X.setCell ⟨W.heap.size + 1, 0, none⟩ (.int .i64 ((n : Int) + 1))) := hB.setCell (by show w.heap.size ≤ W.heap.size + 1; omega) _
      clear hn hp hq hC hS h3 h4 h5 h6 h7 h9 h10 hc
      have HSET := Lib.hid hset; clear hset
      have HPN := Lib.hid hpn; clear hpn
      have HL := Lib.hid hl1; clear hl1
      have CN := Lib.hid cN; clear cN
      have HB := Lib.hid hB'; clear hB'
      have HB0 := Lib.hid hB; clear hB
      have HL5 := Lib.hid hsz5; clear hsz5
      clear va5 vb5 hI5 hB5 hTV hK
      have hKD2 : (X.setCell ⟨W.heap.size + 1, 0, none⟩ (.int .i64 ((n : Int) + 1))).heap[D]? = some (.deferred (some [])) := (KeepsOthers.setCell X ⟨W.heap.size + 1, 0, none⟩ _).same D _ hKD rfl
      have HKD := Lib.hid hKD2; clear hKD2 hKD
      by_cases hpq : p = q
      · subst hpq
        gi_wp2_with fail
        refine ⟨trivial, (CallsIn.inRound l (callsIn_wide.2 (CN.out _))).mono ?_⟩
        rintro e w' ⟨rfl, rfl⟩
        gi_wp2
        refine ⟨KeepsOthers.setCell _ _ _, KeepsAt.of_grown (grownBy_setCell' _ _ _) (fun c hc => ?_), by rw [HL.out]; exact HSET.out, by simpa using hz, HKD.out, HB.out⟩
        have := tabs_lt HT.out
        have := HS3.out
        have := HSZ.out
        simp only [List.mem_cons, List.not_mem_nil, or_false] at hc
        simp only [ne_eq, Option.some.injEq]
        omega
      · have hpq' : ((p : Int) == (q : Int)) = false := by simp; omega
        have hpq2 : ((p : Int) != (q : Int)) = true := by simp; omega
        gi_wp2_with fail
        refine ⟨trivial, (CallsIn.inRound l (callsIn_wide.2 (CN.out _))).mono ?_⟩
        rintro e w' ⟨rfl, rfl⟩
        gi_wp2
        exact ⟨KeepsOthers.setCell _ _ _, rfl, fun he => hpq (HPN.out he)⟩
    case done2 =>
      rintro D2 xs X hD2 rfl ⟨hI, hz2, hKD, hB⟩ hK2
      rw [List.length_range] at hI
      obtain ⟨h3, h4, h5, h6, h7, h9, h10, hc⟩ := hI
      have c6 := h6.cell
      have f6 := h6.frozen
      have c7 := h7.cell
      have c9 := h9.cell
      have c10 := h10.cell
      have c6n : ∀ o, (X.alloc o).cell? ⟨w.heap.size + 1 + 1 + 1, 0, none⟩ = some (.bool false) := fun o => (h6.alloc o).cell
      have f6n : ∀ o, (X.alloc o).frozen? ⟨w.heap.size + 1 + 1 + 1, 0, none⟩ = false := fun o => (h6.alloc o).frozen
      have c9n : (X.alloc (.cells #[.int .i64 2] 3)).cell? ⟨X.heap.size, 0, none⟩ = some (.int .i64 2) := (Boxed.new X 3 (.int .i64 2)).cell
      have H6 := Lib.hid (h6.alloc (.cells #[.int .i64 2] 3))
      clear h3 h4 h5 h6 h7 h9 h10 hc va5 vb5 hI5 hB5 hTV
      gi_wp2
      rw [roundsIn_succ]
      clear c6 f6 c9
      gi_wp2
      have kY : KeepsOthers X ((X.alloc (.cells #[.int .i64 2] 3)).setCell ⟨w.heap.size + 1 + 1 + 1, 0, none⟩ (.bool true)) := (KeepsOthers.alloc X _).trans (KeepsOthers.setCell _ _ _)
      have bY := H6.out.set (.bool true)
      have hBY : Below w.heap.size w ((X.alloc (.cells #[.int .i64 2] 3)).setCell ⟨w.heap.size + 1 + 1 + 1, 0, none⟩ (.bool true)) := (hB.alloc hB.size _).setCell (by show w.heap.size ≤ w.heap.size + 1 + 1 + 1; omega) _
      obtain ⟨Y, hY⟩ : ∃ Y, (X.alloc (.cells #[.int .i64 2] 3)).setCell ⟨w.heap.size + 1 + 1 + 1, 0, none⟩ (.bool true) = Y := ⟨_, rfl⟩
      rw [hY] at kY bY hBY ⊢
      have kD2 := kY.same D2 _ hK2 rfl
      have kD := kY.same D _ hKD rfl
      have hDlt := (Array.getElem?_eq_some_iff.1 hK).1
      have hne : D ≠ D2 := by have := HL4.out; omega
      have hS3 := HS3.out
      have hSZ := HSZ.out
      have hS4 := HL4.out
      have kD' : (Y.putObj D2 (.deferred none)).heap[D]? = some (.deferred (some [])) := (World.putObj_heap_other hne).trans kD
      have b1 : Boxed (Y.putObj D2 (.deferred none)) (w.heap.size + 1 + 1 + 1) 4 (.bool true) := bY.kept (grownBy_putObj' Y D2 _) (fun e => by have := Option.some.inj e; omega)
      have b2 : Boxed ((Y.putObj D2 (.deferred none)).putObj D (.deferred none)) (w.heap.size + 1 + 1 + 1) 4 (.bool true) := b1.kept (grownBy_putObj' _ D _) (fun e => by have := Option.some.inj e; omega)
      have cY := b2.cell
      refine ⟨by simp, .inl ⟨_, _, rfl, run_takeDeferred kD2, by simp, .inl ⟨_, _, rfl, run_takeDeferred kD', .bool true, ?_, rfl, ?_⟩⟩⟩
      · simp [results, Tryd.results5, go_sem, cY]
      · exact (hBY.trans (belowK_b (w := w) (Nat.le_refl _) Y D2 _ _ (by omega) kD2 rfl rfl)).trans (belowK_b (w := w) (Nat.le_refl _) _ D _ _ (by omega) kD' rfl rfl)
    case stop2 =>
      rintro D2 c pre X hD2 ⟨k, _, rfl⟩ ⟨_, h2⟩ hK2
      exact absurd (by simp) h2
end Go.Proofs.YtaemijgfngdjlaaDoor
