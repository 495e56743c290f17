/- Several texts in one (Contracts of layer 8: the calls, on an array of values; Contracts of layer 8: what an array of values shows; Contracts of layer 8: what a key set, or deleted, leaves; Contracts of layer 8: All's iterator, by places: a round that is left tells of the first places; Contracts of layer 8: a row of keys beside an array; the laws' texts; Contracts of layer 8: an array of values, whatever it holds, and what lies beside it; The walk of the law AssocLoops). -/
import Derived.RangeFuncNested
import Derived.Maps.AppendAt
import Derived.RangeFuncWrites
import Derived.LoopNIn
import Derived.Lib.SlicesS
import Derived.Laws.StructEq
import Derived.Maps.OwnIn
import Derived.Deep.RegionHeld3
import Derived.Stop.RegionWithIn
import Derived.Deep.QuietTactic
import Derived.BigQuiet
import Derived.IntWalk
import Derived.Test.YtnbagigbaceonaaGreatDoorQal1
import Derived.Test.YtnbagigbaceonaaGreatDoorQal3
namespace Go.Proofs.YtnbagigbaceonaaGreatDoor
open Go.RowKit Go.Lib Go.Maps

theorem Arr.ne_elt {W : World} {a m n e : Nat} {came : Int} {D : AD} (h : Arr W a m n came D) {T : Tab} (he : EltT W T e) : a ≠ e ∧ m ≠ e := by
  constructor
  · intro q
    subst q
    have h1 := h.row.row
    rw [he.row] at h1
    injection h1 with h1
    injection h1 with h1 h2
    have := congrArg Array.size h1
    cases this
  · intro q
    subst q
    obtain ⟨es, clock, hb, -⟩ := h.own
    rw [he.row] at hb
    cases hb
theorem St.set_new {W : World} {a m n : Nat} {came : Int} {T : Tab} {els : List Nat} {E : List (Lit × Nat)} (h : St W a m n came T els E) (s : ByteArray) (hs : s.size ≤ 281474976710656) (hn : n < maxLen) (hc0 : 0 ≤ came) (hc1 : came < 1000000) (hno : ∀ e ∈ els, T.key e ≠ s) (kind : Int) (N : Nat) (S : ByteArray) (hS : S.size ≤ 281474976710656) :
    Calls Tryz.prog 8 #[ptrB a, .string s, .agg #[.int .i64 kind, .float .f64 N, .string S]] W fun e w' => e = .returned (.int .i64 0) ∧ (∃ (el : Nat) (E' : List (Lit × Nat)), W.heap.size ≤ el ∧ el ∉ els ∧ St w' a m (n + 1) (came + 1) (T.upd el s came kind N S) (els ++ [el]) E') ∧ Off2 a m W w' := by
  refine (Go.Proofs.YtnbagigbaceonaaGreatDoor.set_new h.arr s hs hn hc0 hc1 (h.at_no hno _) kind N S hS).mono ?_
  rintro e w' ⟨rfl, ⟨el, hel, hA, hE⟩, hO⟩
  have hin : ∀ e ∈ els, e ≠ el := fun e he q => by
    have := (h.elt e he).1.lt
    omega
  obtain ⟨E', hP, hput⟩ := put_new (E := E) (kl := klS s) el fun p hp => by
    cases q : p.1.sameKey (klS s) with
    | false => rfl
    | true => exact absurd (klS_inj ((h.key p hp).symm.trans (WideAt.sameKey_eq q))) (hno p.2 (h.perm.mem_iff.2 (List.mem_map.2 ⟨p, hp, rfl⟩)))
  rw [hput] at hA
  have hto : ∀ p ∈ E, p.2 ≠ el := fun p hp => hin p.2 (h.perm.mem_iff.2 (List.mem_map.2 ⟨p, hp, rfl⟩))
  refine ⟨rfl, ⟨el, E', hel, fun hm => hin el hm rfl, ⟨hA, ?_, ?_, ?_, ?_⟩⟩, hO⟩
  · refine List.Perm.trans ?_ (hP.map (·.2)).symm
    rw [List.map_cons]
    exact List.perm_append_comm.trans (h.perm.cons el)
  · refine List.pairwise_append.2 ⟨h.ris.imp_of_mem fun {x y} hx hy hxy => ?_, List.pairwise_singleton _ _, fun x hx y hy => ?_⟩
    · show (if x = el then came else T.num x) < (if y = el then came else T.num y)
      rw [if_neg (hin x hx), if_neg (hin y hy)]
      exact hxy
    · rw [List.mem_singleton.1 hy]
      show (if x = el then came else T.num x) < (if el = el then came else T.num el)
      rw [if_neg (hin x hx), if_pos rfl]
      exact (h.elt x hx).2.2.2
  · intro p hp
    rcases List.mem_cons.1 (hP.mem_iff.1 hp) with q | q
    · subst q
      show klS s = klS (if el = el then s else T.key el)
      rw [if_pos rfl]
    · show p.1 = klS (if p.2 = el then s else T.key p.2)
      rw [if_neg (hto p q)]
      exact h.key p q
  · intro e he
    rcases List.mem_append.1 he with q | q
    · have h4 := h.elt e q
      have hx := h.arr.ne_elt h4.1
      have h1 : EltT w' (T.upd el s came kind N S) e := EltT.upd_other (hin e q) (Blk.off2 h4.1 hO hx.1.symm hx.2.symm)
      refine ⟨h1, ?_, ?_, ?_⟩
      · show (if e = el then s else T.key e).size ≤ _
        rw [if_neg (hin e q)]; exact h4.2.1
      · show (if e = el then S else T.str e).size ≤ _
        rw [if_neg (hin e q)]; exact h4.2.2.1
      · show (if e = el then came else T.num e) < _
        rw [if_neg (hin e q)]; have := h4.2.2.2; omega
    · rw [List.mem_singleton.1 q]
      refine ⟨EltT.upd_same hE, ?_, ?_, ?_⟩
      · show (if el = el then s else T.key el).size ≤ _
        rw [if_pos rfl]; exact hs
      · show (if el = el then S else T.str el).size ≤ _
        rw [if_pos rfl]; exact hS
      · show (if el = el then came else T.num el) < _
        rw [if_pos rfl]; omega
/-- Set, at a key that a value has. -/
theorem St.set_old {W : World} {a m n : Nat} {came : Int} {T : Tab} {els : List Nat} {E : List (Lit × Nat)} (h : St W a m n came T els E) {el : Nat} (he : el ∈ els) (kind : Int) (N : Nat) (S : ByteArray) (hS : S.size ≤ 281474976710656) :
    Calls Tryz.prog 8 #[ptrB a, .string (T.key el), .agg #[.int .i64 kind, .float .f64 N, .string S]] W fun e w' => e = .returned (.int .i64 0) ∧ St w' a m n came (T.upd el (T.key el) (T.num el) kind N S) els E ∧ Off2 el el W w' := by
  have h0 := h.elt el he
  refine (set_val h.arr (T.key el) h0.2.1 (h.at_yes he _) h0.1 (h.arr.ne_elt h0.1) kind N S hS).mono ?_
  rintro e w' ⟨rfl, hA, hE, hO⟩
  have hk : ∀ e, (T.upd el (T.key el) (T.num el) kind N S).key e = T.key e := fun e => by
    show (if e = el then T.key el else T.key e) = _
    by_cases q : e = el
    · rw [if_pos q, q]
    · rw [if_neg q]
  have hn : ∀ e, (T.upd el (T.key el) (T.num el) kind N S).num e = T.num e := fun e => by
    show (if e = el then T.num el else T.num e) = _
    by_cases q : e = el
    · rw [if_pos q, q]
    · rw [if_neg q]
  refine ⟨rfl, ⟨hA, h.perm, h.ris.imp fun hxy => by rw [hn, hn]; exact hxy, fun p hp => by rw [hk]; exact h.key p hp, fun e q => ?_⟩, hO⟩
  have h4 := h.elt e q
  rw [hk, hn]
  by_cases hq : e = el
  · subst hq
    refine ⟨EltT.upd_same hE, h4.2.1, ?_, h4.2.2.2⟩
    show (if e = e then S else T.str e).size ≤ _
    rw [if_pos rfl]; exact hS
  · refine ⟨EltT.upd_other hq (Blk.off2 h4.1 hO hq hq), h4.2.1, ?_, h4.2.2.2⟩
    show (if e = el then S else T.str e).size ≤ _
    rw [if_neg hq]; exact h4.2.2.1
/-- Delete. -/
theorem St.delete {W : World} {a m n : Nat} {came : Int} {T : Tab} {els : List Nat} {E : List (Lit × Nat)} (h : St W a m n came T els E) (s : ByteArray) (hs : s.size ≤ 281474976710656) :
    Calls Tryz.prog 14 #[ptrB a, .string s] W fun e w' => e = .returned (.bool (Maps.has (DataW.map (esOf E) : AD) (klS s))) ∧ (∃ E', St w' a m n came T (els.filter fun e => !(klS (T.key e)).sameKey (klS s)) E') ∧ Off2 a m W w' := by
  refine (delete_any h.arr s hs).mono ?_
  rintro e w' ⟨rfl, hA, hO⟩
  rw [del_is] at hA
  refine ⟨rfl, ⟨_, ⟨hA, ?_, h.ris.filter _, fun p hp => h.key p (List.mem_filter.1 hp).1, fun e he => ?_⟩⟩, hO⟩
  · have h1 := h.perm.filter fun e => !(klS (T.key e)).sameKey (klS s)
    rw [List.filter_map] at h1
    refine h1.trans ?_
    rw [List.filter_congr (q := fun p : Lit × Nat => !p.1.sameKey (klS s)) fun p hp => by
      show (!(klS (T.key p.2)).sameKey (klS s)) = _
      rw [h.key p hp]]
  · have h4 := h.elt e (List.mem_filter.1 he).1
    have hx := h.arr.ne_elt h4.1
    exact ⟨Blk.off2 h4.1 hO hx.1.symm hx.2.symm, h4.2⟩
/-- Clear. -/
theorem St.clear {W : World} {a m n : Nat} {came : Int} {T : Tab} {els : List Nat} {E : List (Lit × Nat)} (h : St W a m n came T els E) :
    Calls Tryz.prog 15 #[ptrB a] W fun e w' => (∃ r, e = .returned r) ∧ St w' a m n came T [] [] ∧ Off2 a m W w' := by
  refine (clear_any h.arr).mono ?_
  rintro e w' ⟨hr, hA, hO⟩
  exact ⟨hr, ⟨hA, List.Perm.refl _, List.Pairwise.nil, fun p hp => absurd hp (by simp), fun e he => absurd he (by simp)⟩, hO⟩
/-- What lies elsewhere. -/
theorem St.below {W W' : World} {a m n : Nat} {came : Int} {T : Tab} {els : List Nat} {E : List (Lit × Nat)} (h : St W a m n came T els E) (hb : Below W.heap.size W W') : St W' a m n came T els E :=
  ⟨h.arr.kept hb, h.perm, h.ris, h.key, fun e he => ⟨Blk.below (h.elt e he).1 hb (h.elt e he).1.lt, (h.elt e he).2⟩⟩
theorem St.off2 {W W' : World} {a m n x y : Nat} {came : Int} {T : Tab} {els : List Nat} {E : List (Lit × Nat)} (h : St W a m n came T els E) (o : Off2 x y W W') (h1 : a ≠ x) (h2 : a ≠ y) (h3 : m ≠ x) (h4 : m ≠ y) (h5 : ∀ e ∈ els, e ≠ x ∧ e ≠ y) : St W' a m n came T els E :=
  ⟨h.arr.off2 o h1 h2 h3 h4, h.perm, h.ris, h.key, fun e he => ⟨Blk.off2 (h.elt e he).1 o (h5 e he).1 (h5 e he).2, (h.elt e he).2⟩⟩
/-- A row in order of number is the row as it came. -/
theorem St.order {W : World} {a m n : Nat} {came : Int} {T : Tab} {els : List Nat} {E : List (Lit × Nat)} (h : St W a m n came T els E) {ys : List Nat} (hp : ys.Perm (E.map (·.2))) (hs : ys.Pairwise (fun x y => T.num x ≤ T.num y)) : ys = els := by
  have hp2 : ys.Perm els := hp.trans h.perm.symm
  clear hp
  have hr := h.ris
  clear h
  induction els generalizing ys with
  | nil => exact hp2.eq_nil
  | cons x els ih =>
    cases ys with
    | nil => exact absurd hp2.symm.eq_nil (by simp)
    | cons y ys =>
      have hx := (List.pairwise_cons.1 hr).1
      have hy := (List.pairwise_cons.1 hs).1
      have e : y = x := by
        rcases List.mem_cons.1 (hp2.mem_iff.1 (List.mem_cons_self ..)) with q | q
        · exact q
        · have h1 := hx y q
          rcases List.mem_cons.1 (hp2.mem_iff.2 (List.mem_cons_self ..)) with r | r
          · exact r.symm
          · have h2 := hy x r
            omega
      subst e
      rw [ih (List.pairwise_cons.1 hs).2 (List.perm_cons y |>.1 hp2) (List.pairwise_cons.1 hr).2]
end Go.Proofs.YtnbagigbaceonaaGreatDoor

namespace Go.Proofs.YtnbagigbaceonaaGreatDoor
open Go.RowKit Go.Lib Go.Maps

theorem St.count {W : World} {a m n : Nat} {came : Int} {T : Tab} {els : List Nat} {E : List (Lit × Nat)} (h : St W a m n came T els E) : E.length = els.length := by
  have := h.perm.length_eq
  rw [List.length_map] at this
  exact this.symm
theorem St.each {W : World} {a m n : Nat} {came : Int} {T : Tab} {els : List Nat} {E : List (Lit × Nat)} (h : St W a m n came T els E) : ∀ p ∈ E, Elt W p.2 (T.key p.2) (T.num p.2) (T.kd p.2) (T.flt p.2) (T.str p.2) nilP ∧ (T.key p.2).size ≤ 281474976710656 ∧ (T.str p.2).size ≤ 281474976710656 := fun p hp => by
  have := h.elt p.2 (h.perm.mem_iff.2 (List.mem_map.2 ⟨p, hp, rfl⟩))
  exact ⟨this.1, this.2.1, this.2.2.1⟩
theorem St.keys {W : World} {a m n : Nat} {came : Int} {T : Tab} {els : List Nat} {E : List (Lit × Nat)} (h : St W a m n came T els E) (hl : els.length ≤ 1000) (conv : ByteArray) :
    Calls Tryz.prog 11 #[ptrB a, .string n0, .string conv] W fun e w' => ∃ (g : Nat) (cur : Array Value), e = .returned (.tuple #[.slice (some ⟨g, 0, none⟩) els.length els.length, .int .i64 0]) ∧ W.heap.size ≤ g ∧ Blk w' g cur 9 ∧ (cur.size = els.length ∧ ∀ (j e : Nat), els[j]? = some e → cur[j]? = some (Value.string (T.key e))) ∧ Below W.heap.size W w' := by
  refine (keysE_any T conv h.arr (by rw [h.count]; exact hl) h.each).mono ?_
  rintro e w' ⟨g, ys, cur, rfl, hP, hS, hg, hF, hc, hb⟩
  obtain rfl := h.order hP hS
  exact ⟨g, cur, rfl, hg, hF, hc, hb⟩
theorem St.all {W : World} {a m n : Nat} {came : Int} {T : Tab} {els : List Nat} {E : List (Lit × Nat)} (h : St W a m n came T els E) (hl : els.length ≤ 100000) :
    Calls Tryz.prog 17 #[ptrB a] W fun e w' => ∃ (B g : Nat) (cur : Array Value), e = .returned (.func (.func 35) #[] #[.pointer (some ⟨B, 0, none⟩)]) ∧ W.heap.size ≤ B ∧ Blk w' B #[.slice (some ⟨g, 0, none⟩) els.length els.length] 60 ∧ W.heap.size ≤ g ∧ g ≠ B ∧ Blk w' g cur 46 ∧ Filled T cur els els.length ∧ Below W.heap.size W w' := by
  refine (allE_any T h.arr (by rw [h.count]; exact hl) h.each).mono ?_
  rintro e w' ⟨B, g, ys, cur, rfl, hB, hBk, hP, hS, hg, hgB, hF, hc, hb⟩
  obtain rfl := h.order hP hS
  exact ⟨B, g, cur, rfl, hB, hBk, hg, hgB, hF, hc, hb⟩
theorem St.kind_yes {W : World} {a m n : Nat} {came : Int} {T : Tab} {els : List Nat} {E : List (Lit × Nat)} (h : St W a m n came T els E) {el : Nat} (he : el ∈ els) :
    Calls Tryz.prog 7 #[ptrB a, .string (T.key el)] W fun e w' => e = .returned (.int .i64 1) ∧ W = w' :=
  kindKey_any h.arr (T.key el) (by have := (h.elt el he).2.1; unfold maxLen; omega) (h.at_yes he _) (kind_val (h.elt el he).1)
theorem St.get {W : World} {a m n : Nat} {came : Int} {T : Tab} {els : List Nat} {E : List (Lit × Nat)} (h : St W a m n came T els E) {el : Nat} (he : el ∈ els) :
    Calls Tryz.prog 10 #[ptrB a, .string (T.key el)] W fun e w' => e = .returned (.tuple #[.agg #[.int .i64 (T.kd el), .float .f64 (T.flt el), .string (T.str el)], .bool true]) ∧ Below W.heap.size W w' :=
  get_val h.arr (T.key el) (h.elt el he).2.1 (h.at_yes he _) (h.elt el he).1 (h.elt el he).2.2.1
theorem St.len {W : World} {a m n : Nat} {came : Int} {T : Tab} {els : List Nat} {E : List (Lit × Nat)} (h : St W a m n came T els E) :
    Calls Tryz.prog 13 #[ptrB a] W fun e w' => e = .returned (.int .i64 (els.length : Int)) ∧ W = w' := by
  have e : Maps.size (DataW.map (esOf E) : AD) = els.length := by
    rw [← h.count]
    show (esOf E).length = E.length
    unfold esOf
    rw [List.length_map]
  have := asLen_any h.arr
  rw [e] at this
  exact this
end Go.Proofs.YtnbagigbaceonaaGreatDoor

namespace Go.Proofs.YtnbagigbaceonaaGreatDoor
open Go.RowKit Go.Lib Go.Maps

theorem St.find {W : World} {a m n : Nat} {came : Int} {T : Tab} {els : List Nat} {E : List (Lit × Nat)} (_ : St W a m n came T els E) (s : ByteArray) : (∃ el ∈ els, T.key el = s) ∨ ∀ e ∈ els, T.key e ≠ s := by
  by_cases q : ∃ el ∈ els, T.key el = s
  · exact .inl q
  · exact .inr fun e he hk => q ⟨e, he, hk⟩
theorem upd_key_old (T : Tab) (el : Nat) (num kd : Int) (N : Nat) (S : ByteArray) : (T.upd el (T.key el) num kd N S).key = T.key := by
  funext e
  show (if e = el then T.key el else T.key e) = _
  by_cases q : e = el
  · rw [if_pos q, q]
  · rw [if_neg q]
theorem upd_at (T : Tab) (el : Nat) (s : ByteArray) (num kd : Int) (N : Nat) (S : ByteArray) : (T.upd el s num kd N S).key el = s ∧ (T.upd el s num kd N S).kd el = kd ∧ (T.upd el s num kd N S).flt el = N ∧ (T.upd el s num kd N S).str el = S := ⟨if_pos rfl, if_pos rfl, if_pos rfl, if_pos rfl⟩
/-- What stands behind the other elements stays. -/
theorem upd_off (T : Tab) {el e : Nat} (hne : e ≠ el) (s : ByteArray) (num kd : Int) (N : Nat) (S : ByteArray) : (T.upd el s num kd N S).key e = T.key e ∧ (T.upd el s num kd N S).num e = T.num e ∧ (T.upd el s num kd N S).kd e = T.kd e ∧ (T.upd el s num kd N S).flt e = T.flt e ∧ (T.upd el s num kd N S).str e = T.str e := ⟨if_neg hne, if_neg hne, if_neg hne, if_neg hne, if_neg hne⟩
/-- What stays behind a Delete. -/
def rest (T : Tab) (s : ByteArray) (els : List Nat) : List Nat := els.filter fun e => !(klS (T.key e)).sameKey (klS s)
end Go.Proofs.YtnbagigbaceonaaGreatDoor

namespace Go.Proofs.YtnbagigbaceonaaGreatDoor
open Go.RowKit Go.Lib Go.Maps

/-- What a round tells: a number, and the entry of a place. -/
def encF (T : Tab) (ys : List Nat) (p : Nat × Fin ys.length) : Array Value := #[.int .i64 (p.1 : Int), entA T ys[p.2]]
/-- Rounds, as numbers and places. -/
def plF {ys : List Nat} (xs : List (Nat × Fin ys.length)) : List (Nat × Nat) := xs.map fun p => (p.1, p.2.val)
def firstF (k : Nat) : List (Nat × Nat) := (List.range k).map fun j => (j, j)
theorem firstF_succ (k : Nat) : firstF (k + 1) = firstF k ++ [(k, k)] := by unfold firstF; rw [List.range_succ, List.map_append]; rfl
theorem plF_snoc {ys : List Nat} (xs : List (Nat × Fin ys.length)) (p : Nat × Fin ys.length) : plF (xs ++ [p]) = plF xs ++ [(p.1, p.2.val)] := by unfold plF; rw [List.map_append]; rfl
theorem plF_len {ys : List Nat} {xs : List (Nat × Fin ys.length)} {k : Nat} (h : plF xs = firstF k) : xs.length = k := by
  have := congrArg List.length h
  unfold plF firstF at this
  rwa [List.length_map, List.length_map, List.length_range] at this
set_option maxRecDepth 100000 in
set_option maxHeartbeats 2000000 in
theorem allF_stops (T : Tab) (n : Nat) (hn : 1 ≤ n) (B g : Nat) (ys : List Nat) (cur : Array Value) (hl : ys.length ≤ 100000) (w : World) (h1 : w.cell? ⟨B, 0, none⟩ = some (.slice (some ⟨g, 0, none⟩) ys.length ys.length)) (hF : Blk w g cur 46) (hFi : Filled T cur ys ys.length) :
    SeqStopsK Fence.wide n Tryz.prog 35 #[.pointer (some ⟨B, 0, none⟩)] (encF T ys) (fun W W' => W'.heap[g]? = W.heap[g]?) (fun xs => plF xs = firstF ys.length) (fun xs => ∃ k, k < ys.length ∧ plF xs = firstF (k + 1)) ys.length w := fun l J Jx W hW hJ hJx hY h0 => by
  have c1 : W.cell? ⟨B, 0, none⟩ = some (.slice (some ⟨g, 0, none⟩) ys.length ys.length) := (hW.cell (p := ⟨B, 0, none⟩) (World.block_lt_of_cell? w _ h1)).trans h1
  have HF := Lib.hid (hF.below hW hF.lt)
  have HJ := Lib.hid h0
  have HFi := Lib.hid hFi
  have HY := Lib.hid hY
  have HJA := Lib.hid hJ
  obtain ⟨N, hN⟩ : ∃ N, ys.length = N := ⟨_, rfl⟩
  have HN := Lib.hid hN
  rw [hN] at c1 hl
  clear h1 hW hJ hJx hY h0 hF hFi hN
  refine callsIn_of_wp Tryz.func35 rfl trivial ?_ rfl
  simp only [Tryz.ntmps35, List.size_toArray, List.length_cons, List.length_nil, Nat.reduceAdd, Nat.reduceSub, Array.replicate_succ, Array.replicate_zero, List.push_toArray, List.append_toArray, List.nil_append, List.cons_append]
  gi_wp2
  clear c1
  gi_loopw [7] (fun v wr => ∃ (k : Nat) (pre : List (Nat × Fin ys.length)), v = .int .i64 (k : Int) ∧ k ≤ N ∧ plF pre = firstF k ∧ J pre wr ∧ wr.heap[g]? = W.heap[g]?) (fun v _ => N - (RowKit.intOf v).toNat)
  case atStart => exact ⟨0, [], rfl, Nat.zero_le _, rfl, HJ.out, rfl⟩
  case round =>
    obtain ⟨k, pre, rfl, hk, hpre, hJk, hg⟩ := hrel
    have HP := Lib.hid hpre
    have HJk := Lib.hid hJk
    have Hg := Lib.hid hg
    by_cases hlt : k < N
    · have hF : Blk wr g cur 46 := ⟨hg.trans HF.out.row⟩
      obtain ⟨kf, hkf⟩ : ∃ kf : Fin ys.length, kf.val = k := ⟨⟨k, by rw [HN.out]; exact hlt⟩, rfl⟩
      obtain ⟨e, he⟩ : ∃ e, ys[kf] = e := ⟨_, rfl⟩
      have he2 : ys[k]? = some e := by
        rw [← he, ← hkf]
        exact List.getElem?_eq_getElem kf.2
      have hat := HFi.out.2 k e (by rw [HN.out]; exact hlt) he2
      have q0 := (hF.cell (k * 5)).trans (hat 0 (by omega))
      have q1 := (hF.cell (k * 5 + 1)).trans (hat 1 (by omega))
      have q2 := (hF.cell (k * 5 + 2)).trans (hat 2 (by omega))
      have q3 := (hF.cell (k * 5 + 3)).trans (hat 3 (by omega))
      have q4 := (hF.cell (k * 5 + 4)).trans (hat 4 (by omega))
      simp only [entV, List.getElem?_cons_zero, List.getElem?_cons_succ] at q0 q1 q2 q3 q4
      have hst := as_store_float
      have hgl : g < wr.heap.size := hF.lt
      have hJ2 : J pre (wr.alloc (.cells #[.string (T.key e), .int .i64 (T.kd e), .float .f64 (T.flt e), .string (T.str e), .bool false] 46)) := HJA.out _ wr _ none hJk (below_grown ((Below.refl wr.heap.size wr).alloc (Nat.le_refl _) _)) (fun r e => by cases e)
      have HG2 := Lib.hid ((Below.heap_alloc wr (.cells #[.string (T.key e), .int .i64 (T.kd e), .float .f64 (T.flt e), .string (T.str e), .bool false] 46) g hgl).trans hg)
      obtain ⟨fn, tmps, assign, body, hy2, hR⟩ := HY.out pre (k, kf) _ hJ2 (by rw [plF_len hpre, HN.out]; exact hlt)
      simp only [encF, entA, he] at hy2
      have HKF := Lib.hid hkf
      clear hat hF hJk he he2 hJ2 hgl hg hkf hpre
      gi_wp2
      refine hR.mono ?_
      rintro e' W3 (⟨rfl, hJ3, hk3⟩ | ⟨rfl, hJx3⟩)
      · gi_wp2
        go_roundw
        case rel => exact ⟨k + 1, _, by congr 1, by omega, by rw [plF_snoc, HP.out, firstF_succ, HKF.out], hJ3, hk3.trans HG2.out⟩
        case measure => simp [RowKit.intOf]; omega
      · gi_wp2
        refine bodyPost_ret (results_none rfl _ _ _) rfl ?_
        exact ⟨⟨_, rfl⟩, .inr ⟨_, ⟨k, by rw [HN.out]; exact hlt, by rw [plF_snoc, HP.out, firstF_succ, HKF.out]⟩, hJx3⟩⟩
    · obtain rfl : k = N := by omega
      gi_wp2
      go_end0
      exact ⟨⟨_, rfl⟩, .inl ⟨_, by rw [HN.out]; exact HP.out, HJk.out⟩⟩
end Go.Proofs.YtnbagigbaceonaaGreatDoor

namespace Go.Proofs.YtnbagigbaceonaaGreatDoor
open Go.RowKit Go.Lib Go.Maps

theorem own_below {w w' : World} {n : Nat} {t : TypeId} {z k : Nat} {v : Value} {xs : List Value} (h : w.ownsRow n t z v k xs) (hb : Below w.heap.size w w') : w'.ownsRow n t z v k xs := by
  refine ⟨h.1, ?_⟩
  rcases h.2 with h0 | ⟨g, cap, cur, e, hn, hr, hz⟩
  · exact .inl h0
  · exact .inr ⟨g, cap, cur, e, hn, (hb.block g (Array.getElem?_eq_some_iff.1 hr).1).trans hr, hz⟩
theorem Blk.not_of {W : World} {g : Nat} {cs : Array Value} {t s : TypeId} (h : Blk W g cs t) (ht : t ≠ s) : ∀ cur, W.heap[g]? ≠ some (.cells cur s (0, 0)) := fun cur q => by
  rw [h.row] at q
  injection q with q
  injection q with q1 q2
  exact ht q2
theorem Arr.not_map {W : World} {a m n : Nat} {came : Int} {D : AD} (h : Arr W a m n came D) (s : TypeId) : ∀ cur, W.heap[m]? ≠ some (.cells cur s (0, 0)) := fun cur q => by
  obtain ⟨es, clock, hb, -⟩ := h.own
  rw [hb] at q
  cases q
theorem Arr.grown {W W' : World} {a m n : Nat} {came : Int} {D : AD} {r : Option Nat} (h : Arr W a m n came D) (hg : W.grownBy W' r) (hr : ∀ j, r = some j → ∃ cur, W.heap[j]? = some (.cells cur 9 (0, 0))) : Arr W' a m n came D := by
  refine ⟨h.row.grown hg fun q => ?_, ?_⟩
  · obtain ⟨cur, hc⟩ := hr a q.symm
    exact h.row.not_of (by decide) cur hc
  · have hlt := h.own.lt
    have hne : some m ≠ r := fun q => by
      obtain ⟨cur, hc⟩ := hr m q.symm
      exact h.not_map _ cur hc
    obtain ⟨es, clock, hh, F, hs, hD⟩ := h.own
    exact ⟨es, clock, (hg.block m hlt hne).trans hh, F, hs, hD⟩
theorem St.grown {W W' : World} {a m n : Nat} {came : Int} {T : Tab} {els : List Nat} {E : List (Lit × Nat)} {r : Option Nat} (h : St W a m n came T els E) (hg : W.grownBy W' r) (hr : ∀ j, r = some j → ∃ cur, W.heap[j]? = some (.cells cur 9 (0, 0))) : St W' a m n came T els E :=
  ⟨h.arr.grown hg hr, h.perm, h.ris, h.key, fun e he => ⟨Blk.grown (h.elt e he).1 hg fun q => by
    obtain ⟨cur, hc⟩ := hr e q.symm
    exact Blk.not_of (h.elt e he).1 (by decide) cur hc, (h.elt e he).2⟩⟩
theorem rds_own {W : World} {B n : Nat} {v : Value} {xs : List ByteArray} (hn : xs.length = n) (h : W.ownsRow B 9 1 v n (xs.map Value.string)) : ∃ A cap, v = .slice A n cap ∧ RdS W A xs := by
  subst hn
  rcases h.2 with ⟨rfl, h0⟩ | ⟨q, cap, cur, rfl, hb, hg, h1, h2, h3, h4⟩
  · exact ⟨none, 0, by rw [h0], fun j hj => absurd hj (by omega)⟩
  · refine ⟨_, cap, rfl, fun j hj => ⟨q, 0, rfl, ?_⟩⟩
    have hc := World.ownsRow.cellAt h j (by omega)
    rw [Nat.zero_add, hc]
    simp [hj]
theorem info_strS : (Tryz.prog.info? 9).map (fun i => (i.zero, i.size, i.bytes)) = some (some (.string ⟨#[]⟩), 1, 16) := by kernel_rfl
end Go.Proofs.YtnbagigbaceonaaGreatDoor

namespace Go.Proofs.YtnbagigbaceonaaGreatDoor
open Go.RowKit Go.Lib Go.Maps

/-- Nothing has turned but the array, its map, and elements; and nothing ahead of B. -/
structure Beside (B a m : Nat) (W W' : World) : Prop where
  os : W'.os = W.os
  tape : W'.tape = W.tape
  output : W'.output = W.output
  size : W.heap.size ≤ W'.heap.size
  block : ∀ i, i < W.heap.size → (∀ cs, W.heap[i]? ≠ some (.cells cs 59 (0, 0))) → i ≠ a → i ≠ m → W'.heap[i]? = W.heap[i]?
  low : ∀ i, i < B → i < W.heap.size → W'.heap[i]? = W.heap[i]?
theorem Beside.refl (B a m : Nat) (W : World) : Beside B a m W W := ⟨rfl, rfl, rfl, Nat.le_refl _, fun _ _ _ _ _ => rfl, fun _ _ _ => rfl⟩
theorem Beside.trans {B a m : Nat} {X Y Z : World} (h : Beside B a m X Y) (k : Beside B a m Y Z) : Beside B a m X Z :=
  ⟨k.os.trans h.os, k.tape.trans h.tape, k.output.trans h.output, Nat.le_trans h.size k.size, fun i hi hn ha hm => by
    have e := h.block i hi hn ha hm
    exact (k.block i (Nat.lt_of_lt_of_le hi h.size) (fun cs q => hn cs (e.symm.trans q)) ha hm).trans e, fun i hi hs => (k.low i hi (Nat.lt_of_lt_of_le hs h.size)).trans (h.low i hi hs)⟩
theorem Beside.of_below {B a m : Nat} {W W' : World} (h : Below W.heap.size W W') : Beside B a m W W' := ⟨h.os, h.tape, h.output, h.size, fun i hi _ _ _ => h.block i hi, fun i _ hi => h.block i hi⟩
theorem Beside.of_off {B a m : Nat} {W W' : World} (h : Off2 a m W W') (ha : B ≤ a) (hm : B ≤ m) : Beside B a m W W' := ⟨h.os, h.tape, h.output, h.size, fun i hi _ h1 h2 => h.block i hi h1 h2, fun i hb hi => h.block i hi (by omega) (by omega)⟩
theorem Beside.of_elt {B a m e : Nat} {W W' : World} {T : Tab} (h : Off2 e e W W') (he : EltT W T e) (hB : B ≤ e) : Beside B a m W W' :=
  ⟨h.os, h.tape, h.output, h.size, fun i hi hn _ _ => by
    have hne : i ≠ e := fun q => by
      subst q
      exact hn _ he.row
    exact h.block i hi hne hne, fun i hb hi => h.block i hi (by omega) (by omega)⟩
theorem Beside.below {B a m : Nat} {w W W' : World} (h : Beside B a m W W') (hl : Below B w W) (hB : B ≤ W.heap.size) : Below B w W' :=
  hl.trans ⟨h.os, h.tape, h.output, h.size, fun i hi => h.low i hi (by omega)⟩
theorem Beside.keeps {B a m B0 : Nat} {W W' : World} (h : Beside B a m W W') (ha : a < B0) (hm : m < B0) : KeepsFrom B0 W W' :=
  ⟨h.size, fun k o hB hk ho => by
    have hlt := (Array.getElem?_eq_some_iff.1 hk).1
    rw [h.block k hlt (fun cs q => by rw [hk] at q; cases q; cases ho) (by omega) (by omega)]
    exact hk⟩
/-- An array of values: no more than L of them. -/
def ArrL (L B : Nat) (W : World) (a m : Nat) : Prop := ∃ N came T els E, St W a m N came T els E ∧ N ≤ L ∧ 0 ≤ came ∧ came ≤ (L : Int) ∧ els.length ≤ L ∧ (∀ e ∈ els, B ≤ e) ∧ B ≤ a ∧ B ≤ m
theorem ArrL.below {L B : Nat} {W W' : World} {a m : Nat} (h : ArrL L B W a m) (hb : Below W.heap.size W W') : ArrL L B W' a m := by
  obtain ⟨N, came, T, els, E, h1, h2⟩ := h
  exact ⟨N, came, T, els, E, h1.below hb, h2⟩
theorem ArrL.grown {L B : Nat} {W W' : World} {a m : Nat} {r : Option Nat} (h : ArrL L B W a m) (hg : W.grownBy W' r) (hr : ∀ j, r = some j → j ≠ m ∧ ∃ o : Obj, W.heap[j]? = some o ∧ ∀ cs t, o = .cells cs t (0, 0) → t = 3) : ArrL L B W' a m := by
  obtain ⟨N, came, T, els, E, h1, h2⟩ := h
  refine ⟨N, came, T, els, E, ⟨⟨h1.arr.row.grown hg fun q => ?_, ?_⟩, h1.perm, h1.ris, h1.key, fun e he => ⟨Blk.grown (h1.elt e he).1 hg fun q => ?_, (h1.elt e he).2⟩⟩, h2⟩
  · obtain ⟨_, o, ho, h3⟩ := hr a q.symm
    rw [h1.arr.row.row] at ho
    cases ho
    exact absurd (h3 _ _ rfl) (by decide)
  · have hlt := h1.arr.own.lt
    obtain ⟨es, clock, hh, F, hs, hD⟩ := h1.arr.own
    exact ⟨es, clock, (hg.block m hlt fun q => (hr m q.symm).1 rfl).trans hh, F, hs, hD⟩
  · obtain ⟨_, o, ho, h3⟩ := hr e q.symm
    rw [(h1.elt e he).1.row] at ho
    cases ho
    exact absurd (h3 _ _ rfl) (by decide)
/-- Cells that are no element and no array stay. -/
theorem ArrL.cells {L B : Nat} {W W' : World} {a m : Nat} (h : ArrL L B W a m) (k : Beside B a m W W') {r : Nat} {cs : Array Value} {t : TypeId} (h1 : t ≠ 59) (h2 : t ≠ 53) (hr : W.heap[r]? = some (.cells cs t (0, 0))) : W'.heap[r]? = some (.cells cs t (0, 0)) := by
  obtain ⟨N, came, T, els, E, hS, _⟩ := h
  refine (k.block r (Array.getElem?_eq_some_iff.1 hr).1 (fun c q => ?_) (fun q => ?_) fun q => ?_).trans hr
  · rw [hr] at q
    cases q
    exact h1 rfl
  · subst q
    exact hS.arr.row.not_of (Ne.symm h2) cs hr
  · subst q
    exact hS.arr.not_map _ cs hr
theorem ArrL.set {L B : Nat} {W : World} {a m : Nat} (h : ArrL L B W a m) (hL : L ≤ 1000) (hB : B ≤ W.heap.size) (s : ByteArray) (hs : s.size ≤ 281474976710656) (kind : Int) (N : Nat) (S : ByteArray) (hS : S.size ≤ 281474976710656) :
    Calls Tryz.prog 8 #[ptrB a, .string s, .agg #[.int .i64 kind, .float .f64 N, .string S]] W fun e w' => e = .returned (.int .i64 0) ∧ ArrL (L + 1) B w' a m ∧ Beside B a m W w' := by
  obtain ⟨n, came, T, els, E, h1, h2, h3, h4, h5, h6, h7, h8⟩ := h
  rcases h1.find s with ⟨el, hel, rfl⟩ | hno
  · refine (h1.set_old hel kind N S hS).mono ?_
    rintro e w' ⟨rfl, k1, k2⟩
    exact ⟨rfl, ⟨n, came, _, els, E, k1, by omega, h3, by omega, by omega, h6, h7, h8⟩, Beside.of_elt k2 (h1.elt el hel).1 (h6 el hel)⟩
  · refine (h1.set_new s hs (by unfold maxLen; omega) h3 (by omega) hno kind N S hS).mono ?_
    rintro e w' ⟨rfl, ⟨el, E', hel, _, k1⟩, k2⟩
    refine ⟨rfl, ⟨n + 1, came + 1, _, _, E', k1, by omega, by omega, by omega, by simp; omega, fun e he => ?_, h7, h8⟩, Beside.of_off k2 h7 h8⟩
    rcases List.mem_append.1 he with q | q
    · exact h6 e q
    · rw [List.mem_singleton.1 q]
      omega
theorem ArrL.delete {L B : Nat} {W : World} {a m : Nat} (h : ArrL L B W a m) (s : ByteArray) (hs : s.size ≤ 281474976710656) :
    Calls Tryz.prog 14 #[ptrB a, .string s] W fun e w' => (∃ b, e = .returned (.bool b)) ∧ ArrL L B w' a m ∧ Beside B a m W w' := by
  obtain ⟨n, came, T, els, E, h1, h2, h3, h4, h5, h6, h7, h8⟩ := h
  refine (h1.delete s hs).mono ?_
  rintro e w' ⟨rfl, ⟨E', k1⟩, k2⟩
  exact ⟨⟨_, rfl⟩, ⟨n, came, T, _, E', k1, h2, h3, h4, Nat.le_trans (List.length_filter_le ..) h5, fun e he => h6 e (List.mem_filter.1 he).1, h7, h8⟩, Beside.of_off k2 h7 h8⟩
theorem own_cells {W W' : World} {n : Nat} {t : TypeId} {z k : Nat} {v : Value} {xs : List Value} (h : W.ownsRow n t z v k xs) (hk : ∀ (g : Nat) (cs : Array Value), W.heap[g]? = some (Obj.cells cs t (0, 0)) → W'.heap[g]? = some (Obj.cells cs t (0, 0))) : W'.ownsRow n t z v k xs := by
  refine ⟨h.1, ?_⟩
  rcases h.2 with h0 | ⟨g, cap, cur, e, hn, hr, hz⟩
  · exact .inl h0
  · exact .inr ⟨g, cap, cur, e, hn, hk g cur hr, hz⟩
/-- What the rounds find: the array, the boxes, the row that is kept, the list that was told, and what All tells; the blocks Ds of calls put off. -/
structure Lp2 (w W : World) (B a m r4 r5 r10 g BE gE N : Nat) (kv : Value) (keys : List ByteArray) (cur curE : Array Value) (L : Nat) (Ds : List Nat) : Prop where
  any : ArrL L B W a m
  b4 : Boxed W r4 4 (.bool false)
  b5 : Boxed W r5 24 (ptrB a)
  b10 : Boxed W r10 22 kv
  bE : Boxed W BE 60 (.slice (some ⟨gE, 0, none⟩) N N)
  own : W.ownsRow B 9 1 kv N (keys.map Value.string)
  want : Blk W g cur 9
  ent : Blk W gE curE 46
  low : Below B w W
  size : B ≤ W.heap.size
  ds : ∀ D ∈ Ds, W.heap[D]? = some (.deferred (some [])) ∧ a < D ∧ m < D ∧ B ≤ D
theorem Lp2.beside {w W W' : World} {B a m r4 r5 r10 g BE gE N : Nat} {kv : Value} {keys : List ByteArray} {cur curE : Array Value} {L L' : Nat} {Ds : List Nat} (h : Lp2 w W B a m r4 r5 r10 g BE gE N kv keys cur curE L Ds) (k : Beside B a m W W') (hA : ArrL L' B W' a m) : Lp2 w W' B a m r4 r5 r10 g BE gE N kv keys cur curE L' Ds :=
  ⟨hA, h.any.cells k (by decide) (by decide) h.b4, h.any.cells k (by decide) (by decide) h.b5, h.any.cells k (by decide) (by decide) h.b10, h.any.cells k (by decide) (by decide) h.bE,
    own_cells h.own fun _ _ q => h.any.cells k (by decide) (by decide) q, ⟨h.any.cells k (by decide) (by decide) h.want.row⟩, ⟨h.any.cells k (by decide) (by decide) h.ent.row⟩, k.below h.low h.size, Nat.le_trans h.size k.size, fun D hD => by
      obtain ⟨h1, h2, h3, h4⟩ := h.ds D hD
      refine ⟨(k.block D (Array.getElem?_eq_some_iff.1 h1).1 (fun cs q => ?_) (by omega) (by omega)).trans h1, h2, h3, h4⟩
      rw [h1] at q
      cases q⟩
theorem Lp2.below {w W W' : World} {B a m r4 r5 r10 g BE gE N : Nat} {kv : Value} {keys : List ByteArray} {cur curE : Array Value} {L : Nat} {Ds : List Nat} (h : Lp2 w W B a m r4 r5 r10 g BE gE N kv keys cur curE L Ds) (k : Below W.heap.size W W') : Lp2 w W' B a m r4 r5 r10 g BE gE N kv keys cur curE L Ds :=
  h.beside (Beside.of_below k) (h.any.below k)
/-- A turn of what is no cells, or a cell of the rounds' own count. -/
theorem Lp2.grown {w W W' : World} {B a m r4 r5 r10 g BE gE N : Nat} {kv : Value} {keys : List ByteArray} {cur curE : Array Value} {L : Nat} {Ds : List Nat} {r : Option Nat} (h : Lp2 w W B a m r4 r5 r10 g BE gE N kv keys cur curE L Ds) (hg : W.grownBy W' r) (hr : ∀ j, r = some j → j ≠ m ∧ B ≤ j ∧ (∀ D ∈ Ds, D ≠ j) ∧ ∃ o : Obj, W.heap[j]? = some o ∧ ∀ cs t, o = .cells cs t (0, 0) → t = 3) : Lp2 w W' B a m r4 r5 r10 g BE gE N kv keys cur curE L Ds := by
  have hc : ∀ {j : Nat} {cs : Array Value} {t : TypeId}, t ≠ 3 → W.heap[j]? = some (.cells cs t (0, 0)) → W'.heap[j]? = some (.cells cs t (0, 0)) := fun {j cs t} ht q => (hg.block j (Array.getElem?_eq_some_iff.1 q).1 fun e => by
    obtain ⟨_, _, _, o, ho, h3⟩ := hr j e.symm
    rw [q] at ho
    cases ho
    exact ht (h3 _ _ rfl)).trans q
  refine ⟨h.any.grown hg fun j e => ⟨(hr j e).1, (hr j e).2.2.2⟩, hc (by decide) h.b4, hc (by decide) h.b5, hc (by decide) h.b10, hc (by decide) h.bE, own_cells h.own fun _ _ q => hc (by decide) q, ⟨hc (by decide) h.want.row⟩, ⟨hc (by decide) h.ent.row⟩, h.low.grown hg h.size fun j e => (hr j e).2.1, Nat.le_trans h.size hg.size, fun D hD => ?_⟩
  obtain ⟨h1, h2⟩ := h.ds D hD
  exact ⟨(hg.block D (Array.getElem?_eq_some_iff.1 h1).1 fun e => (hr D e.symm).2.2.1 D hD rfl).trans h1, h2⟩
/-- The rounds' own count. -/
theorem Lp2.count {w W : World} {B a m r4 r5 r10 g BE gE N r : Nat} {kv v u : Value} {keys : List ByteArray} {cur curE : Array Value} {L : Nat} {Ds : List Nat} (h : Lp2 w W B a m r4 r5 r10 g BE gE N kv keys cur curE L Ds) (hr : Boxed W r 3 v) (hB : B ≤ r) : Lp2 w (W.setCell ⟨r, 0, none⟩ u) B a m r4 r5 r10 g BE gE N kv keys cur curE L Ds :=
  h.grown (grownBy_setCell' W r u) fun j e => by
    cases e
    have hr' : W.heap[r]? = some (.cells #[v] 3 (0, 0)) := hr
    refine ⟨fun q => ?_, hB, fun D hD q => ?_, _, hr', fun cs t q => by cases q; rfl⟩
    · obtain ⟨n, came, T, els, E, hS, _⟩ := h.any
      subst q
      exact hS.arr.not_map _ _ hr'
    · subst q
      have := (h.ds D hD).1
      rw [hr'] at this
      cases this
/-- What is left behind the rounds. -/
structure Lp3 (w W : World) (B a m r4 r5 g : Nat) (cur : Array Value) (L : Nat) (Ds : List Nat) : Prop where
  any : ArrL L B W a m
  b4 : Boxed W r4 4 (.bool false)
  b5 : Boxed W r5 24 (ptrB a)
  want : Blk W g cur 9
  low : Below B w W
  size : B ≤ W.heap.size
  ds : ∀ D ∈ Ds, W.heap[D]? = some (.deferred (some [])) ∧ B ≤ D
theorem Lp3.below {w W W' : World} {B a m r4 r5 g : Nat} {cur : Array Value} {L : Nat} {Ds : List Nat} (h : Lp3 w W B a m r4 r5 g cur L Ds) (k : Below W.heap.size W W') : Lp3 w W' B a m r4 r5 g cur L Ds :=
  ⟨h.any.below k, (k.block r4 (Array.getElem?_eq_some_iff.1 h.b4).1).trans h.b4, (k.block r5 (Array.getElem?_eq_some_iff.1 h.b5).1).trans h.b5, Blk.below h.want k (Blk.lt h.want), h.low.trans (k.mono h.size), Nat.le_trans h.size k.size, fun D hD => ⟨(k.block D (Array.getElem?_eq_some_iff.1 (h.ds D hD).1).1).trans (h.ds D hD).1, (h.ds D hD).2⟩⟩
theorem ArrL.off_str {L B : Nat} {W W' : World} {a m g : Nat} {cur : Array Value} (h : ArrL L B W a m) (hw : Blk W g cur 9) (hg : W.grownBy W' (some g)) : ArrL L B W' a m := by
  obtain ⟨N, came, T, els, E, h1, h2⟩ := h
  exact ⟨N, came, T, els, E, h1.grown hg fun j e => by cases e; exact ⟨cur, hw.row⟩, h2⟩
/-- A cell of the list that was told. -/
theorem Lp3.put {w W : World} {B a m r4 r5 g : Nat} {cur : Array Value} {L : Nat} {Ds : List Nat} (h : Lp3 w W B a m r4 r5 g cur L Ds) (hB : B ≤ g) (k : Nat) (v : Value) : Lp3 w (W.setCell ⟨g, k, none⟩ v) B a m r4 r5 g (cur.setIfInBounds k v) L Ds := by
  have hne : ∀ {r : Nat} {cs : Array Value} {t : TypeId}, t ≠ 9 → W.heap[r]? = some (.cells cs t (0, 0)) → (W.setCell ⟨g, k, none⟩ v).heap[r]? = some (.cells cs t (0, 0)) := fun {r cs t} ht hr => by
    rw [Below.heap_setCell W ⟨g, k, none⟩ v r (fun q => by
      have q : r = g := q
      subst q
      have := h.want.row
      rw [hr] at this
      cases this
      exact ht rfl)]
    exact hr
  refine ⟨h.any.off_str h.want ⟨rfl, rfl, rfl, (KeepsWalks.setCell W _ v).size, fun j _ hj => Below.heap_setCell _ _ _ j (fun e => hj (by rw [e]))⟩, hne (by decide) h.b4, hne (by decide) h.b5, h.want.set, h.low.setCell (p := ⟨g, k, none⟩) hB v, ?_, fun D hD => ⟨?_, (h.ds D hD).2⟩⟩
  · rw [World.size_setCell]
    exact h.size
  · rw [Below.heap_setCell W ⟨g, k, none⟩ v D (fun q => by
      have q : D = g := q
      subst q
      have := (h.ds D hD).1
      rw [h.want.row] at this
      cases this)]
    exact (h.ds D hD).1
end Go.Proofs.YtnbagigbaceonaaGreatDoor

namespace Go.Proofs.YtnbagigbaceonaaGreatDoor
open Go.RowKit Go.Lib Go.Maps Go.Shelf
attribute [local go_sem] Oper.semAt_some

def kNew : ByteArray := ⟨#[97, 32, 110, 101, 119, 32, 111, 110, 101]⟩
/-- The first part's state: keys set to themselves, and two boxes. -/
structure Lps (w W : World) (B a m r4 r5 : Nat) (T : Tab) (els : List Nat) (E : List (Lit × Nat)) : Prop where
  st : St W a m els.length (els.length : Int) T els E
  b4 : Boxed W r4 4 (.bool false)
  b5 : Boxed W r5 24 (ptrB a)
  up : ∀ e ∈ els, B ≤ e
  str : ∀ e ∈ els, T.str e = T.key e
  low : Below B w W
  size : B ≤ W.heap.size
theorem Lps.below {w W W' : World} {B a m r4 r5 : Nat} {T : Tab} {els : List Nat} {E : List (Lit × Nat)} (h : Lps w W B a m r4 r5 T els E) (hb : Below W.heap.size W W') : Lps w W' B a m r4 r5 T els E :=
  ⟨h.st.below hb, (hb.block r4 (Array.getElem?_eq_some_iff.1 h.b4).1).trans h.b4, (hb.block r5 (Array.getElem?_eq_some_iff.1 h.b5).1).trans h.b5, h.up, h.str, h.low.trans (hb.mono h.size), Nat.le_trans h.size hb.size⟩
theorem Lps.any {w W : World} {B a m r4 r5 : Nat} {T : Tab} {els : List Nat} {E : List (Lit × Nat)} (h : Lps w W B a m r4 r5 T els E) {L : Nat} (hl : els.length ≤ L) (ha : B ≤ a) (hm : B ≤ m) : ArrL L B W a m :=
  ⟨_, _, T, els, E, h.st, hl, by omega, by omega, hl, h.up, ha, hm⟩
/-- A key set to itself. -/
theorem Lps.set {w W : World} {B a m r4 r5 : Nat} {T : Tab} {els : List Nat} {E : List (Lit × Nat)} (h : Lps w W B a m r4 r5 T els E) (ha : B ≤ a) (hm : B ≤ m) (hl : els.length ≤ 400) (s : ByteArray) (hs : s.size ≤ 281474976710656) :
    Calls Tryz.prog 8 #[ptrB a, .string s, .agg #[.int .i64 2, .float .f64 0, .string s]] W fun e w' => e = .returned (.int .i64 0) ∧ ∃ T' els' E', Lps w w' B a m r4 r5 T' els' E' ∧ els'.length ≤ els.length + 1 := by
  have hA := h.any hl ha hm
  rcases h.st.find s with ⟨el, hel, rfl⟩ | hno
  · refine (h.st.set_old hel 2 0 (T.key el) hs).mono ?_
    rintro e w' ⟨rfl, k1, k2⟩
    have kb : Beside B a m W w' := Beside.of_elt k2 (h.st.elt el hel).1 (h.up el hel)
    refine ⟨rfl, _, els, E, ⟨k1, hA.cells kb (by decide) (by decide) h.b4, hA.cells kb (by decide) (by decide) h.b5, h.up, fun e he => ?_, kb.below h.low h.size, Nat.le_trans h.size kb.size⟩, by omega⟩
    rw [upd_key_old]
    by_cases q : e = el
    · subst q
      exact (upd_at T e (T.key e) _ _ _ _).2.2.2
    · rw [(upd_off T q _ _ _ _ _).2.2.2.2]
      exact h.str e he
  · refine (h.st.set_new s hs (by unfold maxLen; omega) (by omega) (by omega) hno 2 0 s hs).mono ?_
    rintro e w' ⟨rfl, ⟨el, E', hel, hnew, k1⟩, k2⟩
    have kb : Beside B a m W w' := Beside.of_off k2 ha hm
    have hlen : (els ++ [el]).length = els.length + 1 := by simp
    refine ⟨rfl, _, _, E', ⟨by rw [hlen, Int.natCast_add]; exact k1, hA.cells kb (by decide) (by decide) h.b4, hA.cells kb (by decide) (by decide) h.b5, fun e he => ?_, fun e he => ?_, kb.below h.low h.size, Nat.le_trans h.size kb.size⟩, by omega⟩
    · have := h.size
      rcases List.mem_append.1 he with q | q
      · exact h.up e q
      · rw [List.mem_singleton.1 q]; omega
    · obtain ⟨u1, _, _, u4⟩ := upd_at T el s (els.length : Int) 2 0 s
      rcases List.mem_append.1 he with q | q
      · obtain ⟨v1, _, _, _, v5⟩ := upd_off T (show e ≠ el from fun r => hnew (by rw [← r]; exact q)) s (els.length : Int) 2 0 s
        rw [v1, v5]
        exact h.str e q
      · rw [List.mem_singleton.1 q, u1, u4]
set_option maxRecDepth 100000 in
set_option maxHeartbeats 40000000 in
theorem assocLoops_in (A : Option Addr) (ca : Nat) (ss : List ByteArray) (drop : ByteArray) (w : World) (hs : ∀ s ∈ ss, s.size ≤ 281474976710656) (hr : RdS w A ss) (hd : drop.size ≤ 281474976710656) (hll : ss.length ≤ 9223372036854775807) :
    CallsIn Fence.wide 10 Tryz.prog 4 #[.slice A ss.length ca, .string drop] w fun e w' => e = .returned (.bool true) ∧ Below w.heap.size w w' := by
  have HR := Lib.hid hr
  have HSS := Lib.hid hs
  obtain ⟨B, hB⟩ : ∃ B, w.heap.size = B := ⟨_, rfl⟩
  have HB := Lib.hid hB
  have hst := as_store_float
  obtain ⟨n, hn⟩ : ∃ n, ss.length = n := ⟨_, rfl⟩
  have HN := Lib.hid hn
  rw [hn] at hll ⊢
  have CF := Lib.hid (asFixed_any (w.alloc (.cells #[.bool false] 4)))
  have hx4 := Boxed.new w 4 (.bool false)
  have hbw := (Below.refl w.heap.size w).alloc (Nat.le_refl _) (.cells #[.bool false] 4)
  have X4 := Lib.hid hx4
  have HBW := Lib.hid hbw
  clear hr hs hn hx4 hbw hB
  refine callsIn_of_wp_marks Tryz.func4 rfl trivial ?_ rfl
  simp only [Tryz.ntmps4, List.size_toArray, List.length_cons, List.length_nil, Nat.reduceAdd, Nat.reduceSub, Array.replicate_succ, Array.replicate_zero, List.push_toArray, List.append_toArray, List.nil_append, List.cons_append]
  gi_wp2_with fail
  refine ⟨trivial, (callsIn_wide.2 CF.out).mono ?_⟩
  rintro e W1 ⟨rfl, hb1⟩
  have x4 : Boxed W1 w.heap.size 4 (.bool false) := (hb1.block w.heap.size (by simp)).trans X4.out
  have hb1' : Below w.heap.size w W1 := HBW.out.trans (hb1.mono HBW.out.size)
  have hs1 : w.heap.size < W1.heap.size := by have := hb1.size; simp at this; omega
  have HB1 := Lib.hid hb1'
  clear hb1 hb1' CF X4 HBW
  by_cases hlen : 300 < n
  · have h1 : (300 : Int) < (n : Int) := by omega
    have c4 := x4.cell
    have f4 := x4.frozen
    have x5 := Lib.hid (x4.set (.bool true))
    gi_wp2
    refine ⟨.bool true, ?_, rfl, ?_⟩
    · simp [results, Tryz.results4, go_sem, x5.out.cell]
    · exact HB1.out.setCell (Nat.le_refl _) _
  · have h1 : ¬ (300 : Int) < (n : Int) := by omega
    have X4 := Lib.hid x4
    clear x4
    gi_wp2_with fail
    refine ⟨trivial, (callsIn_wide.2 (new_any W1)).mono ?_⟩
    have hB := HB.out
    rintro e W2 ⟨a, m, rfl, hA, hra, hrm, h2⟩
    obtain ⟨W3, hW3⟩ : ∃ W3, W2.alloc (.cells #[ptrB a] 24) = W3 := ⟨_, rfl⟩
    have hb3 : Below W2.heap.size W2 W3 := by rw [← hW3]; exact (Below.refl _ _).alloc (Nat.le_refl _) _
    have x5 : Boxed W3 W2.heap.size 24 (ptrB a) := by rw [← hW3]; exact Boxed.new W2 _ _
    have hK3 : Lps w W3 B a m B W2.heap.size ⟨fun _ => ⟨#[]⟩, fun _ => 0, fun _ => 0, fun _ => 0, fun _ => ⟨#[]⟩⟩ [] [] :=
      ⟨⟨hA.kept hb3, List.Perm.refl _, List.Pairwise.nil, fun p hp => absurd hp (by simp), fun e he => absurd he (by simp)⟩,
        (hb3.block _ (by have := h2.size; omega)).trans ((h2.block _ (by omega)).trans (by rw [← hB]; exact X4.out)), x5, fun e he => absurd he (by simp), fun e he => absurd he (by simp),
        by rw [← hB]; exact (HB1.out.trans (h2.mono (by omega))).trans (hb3.mono (by have := h2.size; omega)), by have := h2.size; have := hb3.size; omega⟩
    have hBa : B ≤ a := by omega
    have hBm : B ≤ m := by omega
    have ham : a < W2.heap.size ∧ m < W2.heap.size := ⟨hA.row.lt, hA.own.lt⟩
    have HK3 := Lib.hid hK3
    have c5 := x5.cell
    rw [hB]
    clear hA hra hrm h2 HB1 X4 hb3 x5 hs1 hB hK3
    gi_wp2_with fail
    skip
    obtain ⟨r5, hr5⟩ : ∃ r5, W2.heap.size = r5 := ⟨_, rfl⟩
    rw [hr5] at HK3 c5 ham ⊢
    clear hW3 hr5
    gi_loopw [31] (fun i wr => ∃ (k : Nat) (T : Tab) (els : List Nat) (E : List (Lit × Nat)), k ≤ n ∧ i = .int .i64 (k : Int) ∧ els.length ≤ k ∧ Lps w wr B a m B r5 T els E) (fun i _ => n - (RowKit.intOf i).toNat)
    case atStart => exact ⟨0, _, [], [], Nat.zero_le _, rfl, Nat.le_refl _, HK3.out⟩
    case round =>
      clear HK3 c5
      obtain ⟨k, T, els, E, hk, rfl, hek, hK⟩ := hrel
      have HK := Lib.hid hK
      by_cases hlt : k < n
      · have hkl : k < ss.length := by rw [HN.out]; exact hlt
        obtain ⟨bk, off, hAe, hc⟩ := HR.out k hkl
        subst hAe
        have hcell := (hK.low.cell (p := ⟨bk, off + k, none⟩) (by have := World.block_lt_of_cell? w _ hc; rw [← HB.out]; exact this)).trans hc
        have hks := HSS.out _ (List.getElem_mem hkl)
        obtain ⟨key, hkey⟩ : ∃ key, ss[k] = key := ⟨_, rfl⟩
        rw [hkey] at hcell hks
        have c5 := hK.b5.cell
        have KP := Lib.hid (fun (Y : World) (hb : Below wr.heap.size wr Y) => (hb.cell (p := ⟨r5, 0, none⟩) (lt_of_cell c5)).trans c5)
        have CT := Lib.hid (fun W => asText_any key W)
        have CS := Lib.hid (fun (Y : World) (hb : Below wr.heap.size wr Y) => (hK.below hb).set hBa hBm (by omega) key hks)
        clear hc hkl hkey hK
        gi_wp2_with fail
        refine wpIn_wide.2 ?_
        go_region_held3 (fun w' => w'.cell? ⟨r5, 0, none⟩ = some (ptrB a))
          (first | (with_reducible exact S8) | (with_reducible exact S6) | go_keep)
          (first
          | (go_at_call 9; (with_reducible refine (CT.out _).mono ?_); rintro e X6 ⟨rfl, h⟩; have b6 : Below wr.heap.size wr X6 := ⟨h.os, h.tape, h.output, h.size, h.block⟩; have S6 := KP.out _ b6; clear h)
          | (go_at_call 8; (with_reducible refine (CS.out _ b6).mono ?_); rintro e X8 ⟨rfl, T', els', E', hK8, hel8⟩; have S8 := hK8.b5.cell; have HK8 := Lib.hid hK8; clear hK8))
        rename_i K ha hH
        show K _ _
        refine ha _ _ ?_
        clear hH S8 S6 b6 CS KP CT HK
        gi_wp2
        go_roundw
        case rel => exact ⟨k + 1, T', els', E', by omega, by go_num, by omega, HK8.out⟩
        case measure => simp [RowKit.intOf]; omega
      · obtain rfl : k = n := by omega
        have c5 := hK.b5.cell
        obtain ⟨N, hN⟩ : ∃ N, els.length = N := ⟨_, rfl⟩
        have HNN := Lib.hid hN
        have hN2 : N ≤ 300 := by omega
        have CK := Lib.hid (HK.out.st.keys (by omega) ⟨#[]⟩)
        rw [hN] at CK
        clear hK hlt hN hek
        gi_wp2_with fail
        refine ⟨trivial, (callsIn_wide.2 CK.out).mono ?_⟩
        rintro e W4 ⟨g, cur, rfl, hg1, hF, hc, hb⟩
        have HK4 := Lib.hid (HK.out.below hb)
        have HF := Lib.hid hF
        have HC := Lib.hid hc
        have hg1 : B ≤ g := Nat.le_trans HK.out.size hg1
        clear hb hF hc CK HK c5
        have hnews : ∀ (j : Nat) u, ((els.map T.key).map Value.string)[j]? = some u → (W4.alloc (.cells #[] 9)).cell? ((⟨g, 0, none⟩ : Addr).add j) = some u := fun j u hj => by
          rw [Addr.add_lit, Nat.zero_add]
          rw [List.getElem?_map, List.getElem?_map] at hj
          cases he : els[j]? with
          | none => rw [he] at hj; cases hj
          | some e =>
            rw [he] at hj
            cases hj
            exact ((Blk.alloc HF.out _).cell j).trans (HC.out.2 j e he)
        have hown0 : (W4.alloc (.cells #[] 9)).ownsRow B 9 1 (.slice (some ⟨W4.heap.size, 0, none⟩) 0 0) 0 [] :=
          ⟨rfl, .inr ⟨W4.heap.size, 0, #[], rfl, HK4.out.size, heap_alloc_new W4 _, Nat.le_refl _, by decide, rfl, rfl⟩⟩
        have hlen1 : ((els.map T.key).map Value.string).length = N * 1 := by rw [List.length_map, List.length_map, HNN.out, Nat.mul_one]
        obtain ⟨i0, hi, hz0, hz1, hz2⟩ := info_parts info_strS
        have hB4 := HK4.out.size
        gi_wp2_with (gi_at_builtin; refine wpListIn_append_own_at _ rfl _ _ 22 rfl B 9 i0 _ 1 16 Tryz.underlying22 hi hz0 hz1 hz2 rfl (by decide) (.slice (some ⟨W4.heap.size, 0, none⟩) 0 0) 0 [] rfl hown0 ⟨g, 0, none⟩ N N _ rfl hlen1 hnews (fun u hu => by obtain ⟨x, _, rfl⟩ := List.mem_map.1 hu; simp [Value.oneCell']) (by unfold maxLen; omega) (by omega) (by simp; omega) ?_)
        rintro v' W5 hown5 hgr5 hn5 hb5'
        clear hn5 hb5'
        have hb5 : Below W4.heap.size W4 W5 := ((Below.refl W4.heap.size W4).alloc (Nat.le_refl _) (.cells #[] 9)).grown hgr5 (by simp) (fun k e => by cases e; exact Nat.le_refl _)
        have hown5' : W5.ownsRow B 9 1 v' N ((els.map T.key).map Value.string) := by rw [List.map_map]; exact hown5
        obtain ⟨A5, cap5, rfl, -⟩ := rds_own (by rw [List.length_map]; exact HNN.out) hown5'
        have hb6 := hb5.alloc hb5.size (.cells #[.slice A5 N cap5] 22)
        have HK6 := Lib.hid (HK4.out.below hb6)
        have HO6 := Lib.hid (own_below hown5' ((Below.refl W5.heap.size W5).alloc (Nat.le_refl _) (.cells #[.slice A5 N cap5] 22)))
        have HF6 := Lib.hid (Blk.below HF.out hb6 (Blk.lt HF.out))
        have HX := Lib.hid (Boxed.new W5 22 (.slice A5 N cap5))
        have hs6 := hb6.size
        have hs5 := hb5.size
        have c5 := HK6.out.b5.cell
        clear hnews hown0 hlen1 hi hz0 hz1 hz2 hown5 hown5' hgr5 hb5 hb6 HK4 HF
        gi_wp2_with fail
        obtain ⟨W6, hW6⟩ : ∃ W6, W5.alloc (.cells #[.slice A5 N cap5] 22) = W6 := ⟨_, rfl⟩
        obtain ⟨r10, hr10⟩ : ∃ r, W5.heap.size = r := ⟨_, rfl⟩
        rw [hW6] at HK6 HO6 HF6 HX c5 hs6 ⊢
        rw [hr10] at HX ⊢
        have h610 : r10 < W6.heap.size := (Array.getElem?_eq_some_iff.1 HX.out).1
        clear hW6 hr10 hs6 hs5
        refine ⟨trivial, (callsIn_wide.2 (HK6.out.st.all (by have := HNN.out; omega))).mono ?_⟩
        rintro e W7 ⟨BE, gE, curE, rfl, hBE, hBk, hgE, hgBE, hEnt, hFil, hb7⟩
        have hL7 : Lp2 w W7 B a m B r5 r10 g BE gE els.length (.slice A5 N cap5) (els.map T.key) cur curE 400 [] :=
          ⟨(HK6.out.below hb7).any (by have := HNN.out; omega) hBa hBm, (HK6.out.below hb7).b4, (HK6.out.below hb7).b5, (hb7.block r10 h610).trans HX.out, hBk.row, by rw [HNN.out]; exact own_below HO6.out hb7, Blk.below HF6.out hb7 (Blk.lt HF6.out), hEnt, (HK6.out.below hb7).low, (HK6.out.below hb7).size, fun D hD => (nomatch hD)⟩
        have HL7 := Lib.hid hL7
        have HFIL := Lib.hid hFil
        have HSTR := Lib.hid HK6.out.str
        have HSZ := Lib.hid (fun e he => (HK6.out.st.elt e he).2.1)
        have HND := Lib.hid (show els.Nodup from HK6.out.st.ris.imp fun h q => by rw [q] at h; omega)
        have HAP := Lib.hid (fun x y hx hy hk => HK6.out.st.keys_apart (x := x) (y := y) hx hy hk)
        have c5 := hL7.b5.cell
        clear hBk hEnt hFil hb7 hL7 HK6 HO6 HF6 HX hBE hgE h610
        gi_wp2_with fail
        refine ⟨trivial, (callsIn_wide.2 (HL7.out.any.delete drop hd)).mono ?_⟩
        rintro e W8 ⟨⟨bd, rfl⟩, hA8, hk8⟩
        have HL8 := Lib.hid (HL7.out.beside hk8 hA8)
        have c5 := HL8.out.b5.cell
        clear hA8 hk8 HL7
        gi_wp2_with fail
        refine ⟨trivial, (callsIn_wide.2 (HL8.out.any.set (by omega) HL8.out.size kNew (by decide) 0 0 ⟨#[]⟩ (by decide))).mono ?_⟩
        rintro e W9 ⟨rfl, hA9, hk9⟩
        have HL9 := Lib.hid (HL8.out.beside hk9 hA9)
        clear hA9 hk9 HL8 c5
        gi_wp2
        refine wpIn_loop_rounds 3 ?_
        rw [roundsIn_succ]
        gi_wp2
        -- THE ROUNDS
        obtain ⟨W9n, hW9n⟩ : ∃ W9n, W9.alloc (.cells #[.int .i64 0] 3) = W9n := ⟨_, rfl⟩
        have hL0 : Lp2 w W9n B a m B r5 r10 g BE gE els.length (.slice A5 N cap5) (els.map T.key) cur curE 401 [] := by rw [← hW9n]; exact HL9.out.below ((Below.refl _ _).alloc (Nat.le_refl _) _)
        have hC0 : Boxed W9n W9.heap.size 3 (.int .i64 ((0 : Nat) : Int)) := by rw [← hW9n]; exact Boxed.new W9 _ _
        have hB0 : B ≤ W9.heap.size := HL9.out.size
        obtain ⟨r13_0, hr13_0⟩ : ∃ r, W9.heap.size = r := ⟨_, rfl⟩
        rw [hW9n]
        rw [hr13_0] at hC0 hB0 ⊢
        clear hW9n hr13_0
        have hm0 : m < W9n.heap.size ∧ B ≤ W9n.heap.size := ⟨by obtain ⟨_, _, _, _, _, hS, _⟩ := hL0.any; exact hS.arr.own.lt, hL0.size⟩
        have hd0 : ∀ D ∈ ([] : List Nat), D < W9n.heap.size := fun D hD => (Array.getElem?_eq_some_iff.1 (hL0.ds D hD).1).1
        have hgE0 : gE < W9n.heap.size := Blk.lt hL0.ent
        have ha0 : a < W9n.heap.size := by obtain ⟨_, _, _, _, _, hS, _⟩ := hL0.any; exact hS.arr.row.lt
        refine wpIn_rangeFunc_ownH rfl (by omega) (gf := 35) (lb := #[.pointer (some ⟨BE, 0, none⟩)]) rfl trivial (enters_of Tryz.func35 (by kernel_rfl) rfl)
          (allF_stops T 9 (by omega) BE gE els curE (by have := HNN.out; omega) W9n (Boxed.cell hL0.bE) hL0.ent HFIL.out) (fun h k => k.trans h)
          (fun W l o o' hl _ _ _ => World.putObj_heap_other (by omega)) (Below.refl _ _) (fun _ => rfl)
          (fun pre W => (Lp2 w W B a m B r5 r10 g BE gE els.length (.slice A5 N cap5) (els.map T.key) cur curE 401 [] ∧ Boxed W r13_0 3 (.int .i64 (pre.length : Int))) ∧ (plF pre = firstF pre.length ∧ W9n.heap.size ≤ W.heap.size))
          (fun c pre _ => c = .ret ∧ plF pre ≠ firstF pre.length) ?hI0 (fun _ _ _ _ _ hs _ _ => hs) ⟨⟨hL0, hC0⟩, rfl, Nat.le_refl _⟩
          (fun x a' W => ∃ X, W9n.heap.size ≤ X ∧ Blk W X #[.string (T.key els[x.2]), .int .i64 (T.kd els[x.2]), .float .f64 (T.flt els[x.2]), .string (T.str els[x.2]), .bool false] 46 ∧ a' = { tmps := #[Value.slice A k ca, Value.string drop, undef, undef, Value.pointer (some { block := B, off := 0 }), Value.pointer (some { block := r5, off := 0 }), undef, u7, Value.slice (some { block := g, off := 0 }) N N, Value.int IntKind.i64 0, Value.pointer (some { block := r10, off := 0 }), Value.func (.func 35) #[] #[Value.pointer (some { block := BE, off := 0 })], Value.int IntKind.i64 0, Value.pointer (some { block := r13_0, off := 0 }), .int .i64 (x.1 : Int), .pointer (some ⟨X, 0, none⟩), undef, undef, undef, undef, undef, Value.bool true, Value.bool false, Value.slice A k ca, Value.int IntKind.i64 ↑k, Value.bool (decide ((300 : Int) < (k : Int))), ptrB a, ptrB a, Value.bool false, Value.slice A k ca, Value.int IntKind.i64 ↑k, Value.int IntKind.i64 ↑k, Value.bool false, u33, u34, u35, u36, u37, u38, u39, u40, Value.tuple #[Value.slice (some { block := g, off := 0 }) N N, Value.int IntKind.i64 0], ptrB a, Value.tuple #[Value.slice (some { block := g, off := 0 }) N N, Value.int IntKind.i64 0], Value.slice (some { block := g, off := 0 }) N N, Value.int IntKind.i64 0, Value.slice (some { block := W4.heap.size, off := 0 }) 0 0, Value.slice (some { block := g, off := 0 }) N N, Value.slice A5 N cap5, ptrB a, Value.func (.func 35) #[] #[Value.pointer (some { block := BE, off := 0 })], ptrB a, Value.string drop, Value.bool bd, ptrB a, Value.agg #[Value.int IntKind.i64 0, Value.float FloatKind.f64 0, Value.string { data := #[] }], Value.int IntKind.i64 0, Value.int IntKind.i64 0, Value.bool true, undef, undef, Value.func (.func 35) #[] #[Value.pointer (some { block := BE, off := 0 })], .int .i64 (x.1 : Int), .agg #[.string (T.key els[x.2]), .int .i64 (T.kd els[x.2]), .float .f64 (T.flt els[x.2]), .string (T.str els[x.2]), .bool false], undef, undef, undef, undef, undef, undef, undef, undef, undef, undef, undef, undef, undef, undef, undef, undef, undef, undef, undef, undef, undef, undef, undef, undef, undef, undef, undef, undef, undef, undef, undef, undef, undef, undef, undef, undef, undef, undef, undef, undef, undef, undef, undef, undef, undef, undef, undef, undef, undef, undef, undef, undef, undef, undef, undef, undef, undef, undef, undef, undef, undef, undef, undef, undef], defers := [] })
          ?hAx0 ?assign0 ?body0 ?done0 ?stop0
        case hI0 =>
          rintro s W W' row ⟨⟨h1, h2⟩, h3, h4⟩ hg hr
          refine ⟨⟨h1.grown hg fun j e => ?_, boxed_own (β := Unit) r13_0 3 (fun _ => .int .i64 (s.length : Int)) () W W' row h2 hg (fun r e => (hr r e).2)⟩, h3, Nat.le_trans h4 hg.size⟩
          obtain ⟨k1, o, k2, k3⟩ := hr j e
          exact ⟨by omega, by omega, fun D hD q => by have := hd0 D hD; omega, o, k2, fun cs t q => by rw [q] at k3; cases k3⟩
        case hAx0 =>
          rintro x a' _ W W' row ⟨X, h1, h2, h3⟩ hg hr
          exact ⟨X, h1, Blk.grown h2 hg (fun q => by obtain ⟨_, o, ho, hc⟩ := hr X q.symm; rw [h2.row] at ho; cases ho; cases hc), h3⟩
        case assign0 =>
          rintro l pre x W K ⟨⟨h1, h2⟩, h3, h4⟩ hK
          simp only [encF, entA]
          gi_wp2
          exact hK _ _ ((KeepsOthers.alloc _ _).from _) (Below.heap_alloc W _ gE (Blk.lt h1.ent)) ⟨⟨h1.below ((Below.refl _ _).alloc (Nat.le_refl _) _), h2.alloc _⟩, h3, by simp; omega⟩ ⟨W.heap.size, h4, Blk.new W _ _, rfl⟩
        case body0 =>
          rintro l pre x a' W hl ⟨rec, hr⟩ ⟨⟨hL, hC⟩, hP, hz⟩ ⟨X, hX, hXB, rfl⟩ hlt
          obtain ⟨i, j⟩ := x
          have HL := Lib.hid hL
          have HC' := Lib.hid hC
          have HLR := Lib.hid (And.intro hl (And.intro hz hX))
          obtain ⟨e, he⟩ : ∃ e, els[j] = e := ⟨_, rfl⟩
          obtain ⟨p, hp⟩ : ∃ p, pre.length = p := ⟨_, rfl⟩
          have hlt' : p < els.length := by rw [← hp]; exact hlt
          obtain ⟨ep, hep⟩ : ∃ ep, els[pre.length] = ep := ⟨_, rfl⟩
          have hem : e ∈ els := by rw [← he]; exact List.getElem_mem _
          have hepm : ep ∈ els := by rw [← hep]; exact List.getElem_mem _
          have hstr := HSTR.out e hem
          have hksz := HSZ.out e hem
          obtain ⟨ky, hky⟩ : ∃ ky, T.key e = ky := ⟨_, rfl⟩
          obtain ⟨kp, hkp⟩ : ∃ kp, T.key ep = kp := ⟨_, rfl⟩
          have hgood : i = p → ky = kp → plF (pre ++ [(i, j)]) = firstF (pre ++ [(i, j)]).length := fun h1 h2 => by
            have h3 : e = ep := HAP.out e ep hem hepm (by rw [hky, hkp, h2])
            have h4 : j.val = pre.length := by
              rw [← he, ← hep] at h3
              exact (List.getElem_inj HND.out).1 h3
            rw [plF_snoc, List.length_append, List.length_singleton, firstF_succ, hP, h1, hp, h4, hp]
          have hbad : plF (pre ++ [(i, j)]) = firstF (pre ++ [(i, j)]).length → i = p ∧ ky = kp := fun h1 => by
            rw [plF_snoc, List.length_append, List.length_singleton, firstF_succ, hP] at h1
            have h2 := List.append_cancel_left h1
            simp only [List.cons.injEq, Prod.mk.injEq, and_true] at h2
            refine ⟨h2.1.trans hp, ?_⟩
            rw [← hky, ← hkp, ← he, ← hep]
            congr 1
            exact (show els[j.val]'(j.2) = els[pre.length]'(by rw [hp]; exact hlt') from getElem_congr_idx h2.2)
          have HP := Lib.hid hp
          have hlen : (pre ++ [(i, j)]).length = p + 1 := by rw [List.length_append, List.length_singleton, hp]
          simp only [he, hstr, hky]
          simp only [he, hstr, hky] at hXB
          rw [hky] at hksz
          have x0 := hXB.cell 0
          have x3 := hXB.cell 3
          simp only [List.getElem?_toArray, List.getElem?_cons_zero, List.getElem?_cons_succ] at x0 x3
          have c4 := hL.b4.cell
          have f4 := hL.b4.frozen
          have c5 := hL.b5.cell
          have c10 := hL.b10.cell
          have c13 := hC.cell
          rw [hp] at c13 hlt
          have hNe := HNN.out
          obtain ⟨A6, cap6, e6, hr6⟩ := rds_own (by rw [List.length_map]) hL.own
          injection e6 with e6 e7 e8
          obtain ⟨bk, off, e9, hc6⟩ := hr6 p (by rw [List.length_map]; exact hlt)
          rw [← e6] at e9
          have hkc : W.cell? ⟨bk, off + p, none⟩ = some (.string kp) := by
            rw [hc6, List.getElem_map]
            subst hp
            rw [hep, hkp]
          subst e9
          have hpN : p < N := by omega
          have HG := Lib.hid (And.intro hgood (And.intro hbad (And.intro hlen hP)))
          clear hgood hbad hlen hP hL hC hXB hlt' he hem hepm hstr hep hky hkp hNe e6 e7 e8 hr6 hc6 hlt hr
          have q1 : (p : Int) < (N : Int) := by omega
          have q2 : ¬ (p : Int) < 0 := by omega
          have d1 : decide ((N : Int) ≤ (p : Int)) = false := decide_eq_false (by omega)
          have d2 : decide (N ≤ p) = false := decide_eq_false (by omega)
          by_cases hip : i = p
          · subst hip
            by_cases hkk : ky = kp
            · subst hkk
              clear hp
              gi_wp2_with fail
              refine region_quiet_round l rfl (by kernel_rfl) (by kernel_rfl) (by kernel_rfl) ?_
              repeat (gi_big_quiet_step (fail))
              refine wpQuietIn_nil ?_
              intro _ hw'
              obtain ⟨nq, hw''⟩ := hw'
              subst hw''
              have hbq : Below W.heap.size W (W.drewN nq) := ⟨rfl, rfl, rfl, Nat.le_refl _, fun _ _ => rfl⟩
              have hkq : KeepsFrom W9n.heap.size W (W.drewN nq) := ⟨Nat.le_refl _, fun _ _ _ h _ => h⟩
              have HLq := Lib.hid (HL.out.below hbq)
              have hcq : Boxed (W.drewN nq) r13_0 3 (.int .i64 (i : Int)) := by have := HC'.out; rw [show (pre.length : Int) = (i : Int) from by rw [HP.out]] at this; exact this
              have HCq := Lib.hid hcq
              have hx0q : (W.drewN nq).cell? ⟨X, 0, none⟩ = some (.string ky) := x0
              have hzq : W.heap.size = (W.drewN nq).heap.size := rfl
              obtain ⟨Wq, hWq⟩ : ∃ Wq, W.drewN nq = Wq := ⟨_, rfl⟩
              rw [hWq] at hkq HLq HCq hx0q hzq ⊢
              have c5 := HLq.out.b5.cell
              have HKQ := Lib.hid (And.intro hkq hzq)
              clear c4 f4 c10 c13 x0 x3 hkc hbq hkq hcq hzq hWq d1 d2
              gi_wp2_with fail
              refine ⟨trivial, (CallsIn.inRound l (callsIn_wide.2 (HLq.out.any.delete ky hksz))).mono ?_⟩
              rintro e W2 ⟨⟨bd2, rfl⟩, hA2, hk2⟩
              have HL2 := Lib.hid (HLq.out.beside hk2 hA2)
              have hC2 := HLq.out.any.cells hk2 (by decide) (by decide) HCq.out
              have HC2 := Lib.hid (show Boxed W2 r13_0 3 (.int .i64 (i : Int)) from hC2)
              have HK2 := Lib.hid (And.intro (HKQ.out.1.trans (hk2.keeps ha0 hm0.1)) hk2.size)
              have c13 := HC2.out.cell
              have f13 := HC2.out.frozen
              clear hA2 hk2 hC2 c5 hx0q
              gi_wp2
              have hLe := HL2.out.count (u := .int .i64 ((i : Int) + 1)) HC2.out hB0
              refine ⟨HK2.out.1.trans ((KeepsOthers.setCell _ _ _).from _), hLe.ent.row.trans HL.out.ent.row.symm, ⟨⟨hLe, ?_⟩, HG.out.1 trivial trivial, ?_⟩⟩
              · rw [HG.out.2.2.1]
                exact HC2.out.set _
              · have := HKQ.out.2
                have := HK2.out.2
                have := HLR.out
                simp
                omega
            · have e1 : (ky.toList == kp.toList) = false := (bytes_beq_false_iff ky kp).2 hkk
              have e2 : (ky == kp) = false := by rw [beq_toListBytes]; exact e1
              have e3 : decide (ky = kp) = false := by simpa using hkk
              clear hp
              gi_wp2_with fail
              refine region_quiet_round l rfl (by kernel_rfl) (by kernel_rfl) (by kernel_rfl) ?_
              repeat (gi_big_quiet_step (fail))
              refine wpQuietIn_nil ?_
              intro _ hw'
              obtain ⟨nq, hw''⟩ := hw'
              subst hw''
              have HLq := Lib.hid (HL.out.below (⟨rfl, rfl, rfl, Nat.le_refl _, fun _ _ => rfl⟩ : Below W.heap.size W (W.drewN nq)))
              have hkq : KeepsFrom W9n.heap.size W (W.drewN nq) := ⟨Nat.le_refl _, fun _ _ _ h _ => h⟩
              have HKQ := Lib.hid hkq
              obtain ⟨Wq, hWq⟩ : ∃ Wq, W.drewN nq = Wq := ⟨_, rfl⟩
              rw [hWq] at HKQ HLq ⊢
              have c4 := HLq.out.b4.cell
              have f4 := HLq.out.b4.frozen
              clear c10 c13 c5 x0 x3 hkc hkq hWq d1 d2
              gi_wp2
              exact ⟨HKQ.out.trans ((KeepsOthers.setCell _ _ _).from _), rfl, fun h => hkk (HG.out.2.1 h).2⟩
          · have e1 : ((i : Int) == (p : Int)) = false := by simpa using (show ¬ (i : Int) = (p : Int) by omega)
            have e2 : ((i : Int) != (p : Int)) = true := by simpa using (show ¬ (i : Int) = (p : Int) by omega)
            have e3 : decide ((i : Int) = (p : Int)) = false := decide_eq_false (by omega)
            have e4 : decide (i = p) = false := decide_eq_false hip
            have e5 : (i == p) = false := by simpa using hip
            clear hp
            gi_wp2_with fail
            refine region_quiet_round l rfl (by kernel_rfl) (by kernel_rfl) (by kernel_rfl) ?_
            repeat (gi_big_quiet_step (fail))
            refine wpQuietIn_nil ?_
            intro _ hw'
            obtain ⟨nq, hw''⟩ := hw'
            subst hw''
            have HLq := Lib.hid (HL.out.below (⟨rfl, rfl, rfl, Nat.le_refl _, fun _ _ => rfl⟩ : Below W.heap.size W (W.drewN nq)))
            have hkq : KeepsFrom W9n.heap.size W (W.drewN nq) := ⟨Nat.le_refl _, fun _ _ _ h _ => h⟩
            have HKQ := Lib.hid hkq
            obtain ⟨Wq, hWq⟩ : ∃ Wq, W.drewN nq = Wq := ⟨_, rfl⟩
            rw [hWq] at HKQ HLq ⊢
            have c4 := HLq.out.b4.cell
            have f4 := HLq.out.b4.frozen
            clear c10 c13 c5 x0 x3 hkc hkq hWq d1 d2
            gi_wp2
            exact ⟨HKQ.out.trans ((KeepsOthers.setCell _ _ _).from _), rfl, fun h => hip (HG.out.2.1 h).1⟩
        case done0 =>
          rintro D0 xs W0d hD0 hS0 ⟨⟨hLd, hCd⟩, -, hzd⟩ hK0
          have hlen0 : xs.length = N := by rw [plF_len hS0]; exact HNN.out
          rw [hlen0] at hCd
          have HLd0 := Lib.hid (show Lp2 w W0d B a m B r5 r10 g BE gE els.length (.slice A5 N cap5) (els.map T.key) cur curE 401 [D0] from ⟨hLd.any, hLd.b4, hLd.b5, hLd.b10, hLd.bE, hLd.own, hLd.want, hLd.ent, hLd.low, hLd.size, fun D hD => by
            rcases List.mem_cons.1 hD with q | q
            · subst q
              exact ⟨hK0, by omega, by omega, by omega⟩
            · exact hLd.ds D q⟩)
          have c13 := hCd.cell
          have c10 := hLd.b10.cell
          clear hLd hCd hS0 hlen0 hL0 hC0
          gi_wp2
          rw [roundsIn_succ]
          gi_wp2
          obtain ⟨W0dn, hW0dn⟩ : ∃ W0dn, W0d.alloc (.cells #[.int .i64 0] 3) = W0dn := ⟨_, rfl⟩
          have hL1 : Lp2 w W0dn B a m B r5 r10 g BE gE els.length (.slice A5 N cap5) (els.map T.key) cur curE 401 [D0] := by rw [← hW0dn]; exact HLd0.out.below ((Below.refl _ _).alloc (Nat.le_refl _) _)
          have hC1 : Boxed W0dn W0d.heap.size 3 (.int .i64 ((0 : Nat) : Int)) := by rw [← hW0dn]; exact Boxed.new W0d _ _
          have hB1 : B ≤ W0d.heap.size := HLd0.out.size
          obtain ⟨r13_1, hr13_1⟩ : ∃ r, W0d.heap.size = r := ⟨_, rfl⟩
          rw [hW0dn]
          rw [hr13_1] at hC1 hB1 ⊢
          clear hW0dn hr13_1
          have hm1 : m < W0dn.heap.size ∧ B ≤ W0dn.heap.size := ⟨by obtain ⟨_, _, _, _, _, hS, _⟩ := hL1.any; exact hS.arr.own.lt, hL1.size⟩
          have hd1 : ∀ D ∈ ([D0] : List Nat), D < W0dn.heap.size := fun D hD => (Array.getElem?_eq_some_iff.1 (hL1.ds D hD).1).1
          have hgE1 : gE < W0dn.heap.size := Blk.lt hL1.ent
          have ha1 : a < W0dn.heap.size := by obtain ⟨_, _, _, _, _, hS, _⟩ := hL1.any; exact hS.arr.row.lt
          refine wpIn_rangeFunc_ownH rfl (by omega) (gf := 35) (lb := #[.pointer (some ⟨BE, 0, none⟩)]) rfl trivial (enters_of Tryz.func35 (by kernel_rfl) rfl)
            (allF_stops T 9 (by omega) BE gE els curE (by have := HNN.out; omega) W0dn (Boxed.cell hL1.bE) hL1.ent HFIL.out) (fun h k => k.trans h)
            (fun W l o o' hl _ _ _ => World.putObj_heap_other (by omega)) (Below.refl _ _) (fun _ => rfl)
            (fun pre W => (Lp2 w W B a m B r5 r10 g BE gE els.length (.slice A5 N cap5) (els.map T.key) cur curE 401 [D0] ∧ Boxed W r13_1 3 (.int .i64 (pre.length : Int))) ∧ (plF pre = firstF pre.length ∧ W0dn.heap.size ≤ W.heap.size))
            (fun c pre _ => c = .ret ∧ plF pre ≠ firstF pre.length) ?hI1 (fun _ _ _ _ _ hs _ _ => hs) ⟨⟨hL1, hC1⟩, rfl, Nat.le_refl _⟩
            (fun x a' W => ∃ X, W0dn.heap.size ≤ X ∧ Blk W X #[.string (T.key els[x.2]), .int .i64 (T.kd els[x.2]), .float .f64 (T.flt els[x.2]), .string (T.str els[x.2]), .bool false] 46 ∧ a' = { tmps := #[Value.slice A k ca, Value.string drop, undef, undef, Value.pointer (some { block := B, off := 0 }), Value.pointer (some { block := r5, off := 0 }), undef, u7, Value.slice (some { block := g, off := 0 }) N N, Value.int IntKind.i64 0, Value.pointer (some { block := r10, off := 0 }), Value.func (.func 35) #[] #[Value.pointer (some { block := BE, off := 0 })], Value.int IntKind.i64 1, Value.pointer (some { block := r13_1, off := 0 }), .int .i64 (x.1 : Int), .pointer (some ⟨X, 0, none⟩), undef, undef, undef, undef, undef, Value.bool true, Value.bool false, Value.slice A k ca, Value.int IntKind.i64 ↑k, Value.bool (decide ((300 : Int) < (k : Int))), ptrB a, ptrB a, Value.bool false, Value.slice A k ca, Value.int IntKind.i64 ↑k, Value.int IntKind.i64 ↑k, Value.bool false, u33, u34, u35, u36, u37, u38, u39, u40, Value.tuple #[Value.slice (some { block := g, off := 0 }) N N, Value.int IntKind.i64 0], ptrB a, Value.tuple #[Value.slice (some { block := g, off := 0 }) N N, Value.int IntKind.i64 0], Value.slice (some { block := g, off := 0 }) N N, Value.int IntKind.i64 0, Value.slice (some { block := W4.heap.size, off := 0 }) 0 0, Value.slice (some { block := g, off := 0 }) N N, Value.slice A5 N cap5, ptrB a, Value.func (.func 35) #[] #[Value.pointer (some { block := BE, off := 0 })], ptrB a, Value.string drop, Value.bool bd, ptrB a, Value.agg #[Value.int IntKind.i64 0, Value.float FloatKind.f64 0, Value.string { data := #[] }], Value.int IntKind.i64 0, Value.int IntKind.i64 1, Value.bool true, Value.int IntKind.i64 0, Value.int IntKind.i64 1, Value.func (.func 35) #[] #[Value.pointer (some { block := BE, off := 0 })], .int .i64 (x.1 : Int), .agg #[.string (T.key els[x.2]), .int .i64 (T.kd els[x.2]), .float .f64 (T.flt els[x.2]), .string (T.str els[x.2]), .bool false], undef, undef, undef, undef, undef, undef, undef, undef, undef, undef, undef, undef, undef, undef, undef, undef, undef, undef, undef, undef, undef, undef, undef, undef, undef, undef, undef, undef, undef, undef, undef, undef, Value.int IntKind.i64 ↑N, Value.slice A5 N cap5, Value.int IntKind.i64 ↑N, Value.bool false, undef, undef, undef, undef, undef, undef, undef, undef, undef, undef, undef, undef, undef, undef, undef, undef, undef, undef, undef, undef, undef, undef, undef, undef, undef, undef, undef, undef], defers := [] })
            ?hAx1 ?assign1 ?body1 ?done1 ?stop1
          case hI1 =>
            rintro s W W' row ⟨⟨h1, h2⟩, h3, h4⟩ hg hr
            refine ⟨⟨h1.grown hg fun j e => ?_, boxed_own (β := Unit) r13_1 3 (fun _ => .int .i64 (s.length : Int)) () W W' row h2 hg (fun r e => (hr r e).2)⟩, h3, Nat.le_trans h4 hg.size⟩
            obtain ⟨k1, o, k2, k3⟩ := hr j e
            exact ⟨by omega, by omega, fun D hD q => by have := hd1 D hD; omega, o, k2, fun cs t q => by rw [q] at k3; cases k3⟩
          case hAx1 =>
            rintro x a' _ W W' row ⟨X, h1, h2, h3⟩ hg hr
            exact ⟨X, h1, Blk.grown h2 hg (fun q => by obtain ⟨_, o, ho, hc⟩ := hr X q.symm; rw [h2.row] at ho; cases ho; cases hc), h3⟩
          case assign1 =>
            rintro l pre x W K ⟨⟨h1, h2⟩, h3, h4⟩ hK
            simp only [encF, entA]
            gi_wp2
            exact hK _ _ ((KeepsOthers.alloc _ _).from _) (Below.heap_alloc W _ gE (Blk.lt h1.ent)) ⟨⟨h1.below ((Below.refl _ _).alloc (Nat.le_refl _) _), h2.alloc _⟩, h3, by simp; omega⟩ ⟨W.heap.size, h4, Blk.new W _ _, rfl⟩
          case body1 =>
            rintro l pre x a' W hl ⟨rec, hr⟩ ⟨⟨hL, hC⟩, hP, hz⟩ ⟨X, hX, hXB, rfl⟩ hlt
            obtain ⟨i, j⟩ := x
            have HL := Lib.hid hL
            have HC' := Lib.hid hC
            have HLR := Lib.hid (And.intro hl (And.intro hz hX))
            obtain ⟨e, he⟩ : ∃ e, els[j] = e := ⟨_, rfl⟩
            obtain ⟨p, hp⟩ : ∃ p, pre.length = p := ⟨_, rfl⟩
            have hlt' : p < els.length := by rw [← hp]; exact hlt
            obtain ⟨ep, hep⟩ : ∃ ep, els[pre.length] = ep := ⟨_, rfl⟩
            have hem : e ∈ els := by rw [← he]; exact List.getElem_mem _
            have hepm : ep ∈ els := by rw [← hep]; exact List.getElem_mem _
            have hstr := HSTR.out e hem
            have hksz := HSZ.out e hem
            obtain ⟨ky, hky⟩ : ∃ ky, T.key e = ky := ⟨_, rfl⟩
            obtain ⟨kp, hkp⟩ : ∃ kp, T.key ep = kp := ⟨_, rfl⟩
            have hgood : i = p → ky = kp → plF (pre ++ [(i, j)]) = firstF (pre ++ [(i, j)]).length := fun h1 h2 => by
              have h3 : e = ep := HAP.out e ep hem hepm (by rw [hky, hkp, h2])
              have h4 : j.val = pre.length := by
                rw [← he, ← hep] at h3
                exact (List.getElem_inj HND.out).1 h3
              rw [plF_snoc, List.length_append, List.length_singleton, firstF_succ, hP, h1, hp, h4, hp]
            have hbad : plF (pre ++ [(i, j)]) = firstF (pre ++ [(i, j)]).length → i = p ∧ ky = kp := fun h1 => by
              rw [plF_snoc, List.length_append, List.length_singleton, firstF_succ, hP] at h1
              have h2 := List.append_cancel_left h1
              simp only [List.cons.injEq, Prod.mk.injEq, and_true] at h2
              refine ⟨h2.1.trans hp, ?_⟩
              rw [← hky, ← hkp, ← he, ← hep]
              congr 1
              exact (show els[j.val]'(j.2) = els[pre.length]'(by rw [hp]; exact hlt') from getElem_congr_idx h2.2)
            have HP := Lib.hid hp
            have hlen : (pre ++ [(i, j)]).length = p + 1 := by rw [List.length_append, List.length_singleton, hp]
            simp only [he, hstr, hky]
            simp only [he, hstr, hky] at hXB
            rw [hky] at hksz
            have x0 := hXB.cell 0
            have x3 := hXB.cell 3
            simp only [List.getElem?_toArray, List.getElem?_cons_zero, List.getElem?_cons_succ] at x0 x3
            have c4 := hL.b4.cell
            have f4 := hL.b4.frozen
            have c5 := hL.b5.cell
            have c10 := hL.b10.cell
            have c13 := hC.cell
            rw [hp] at c13 hlt
            have hNe := HNN.out
            obtain ⟨A6, cap6, e6, hr6⟩ := rds_own (by rw [List.length_map]) hL.own
            injection e6 with e6 e7 e8
            obtain ⟨bk, off, e9, hc6⟩ := hr6 p (by rw [List.length_map]; exact hlt)
            rw [← e6] at e9
            have hkc : W.cell? ⟨bk, off + p, none⟩ = some (.string kp) := by
              rw [hc6, List.getElem_map]
              subst hp
              rw [hep, hkp]
            subst e9
            have hpN : p < N := by omega
            have HG := Lib.hid (And.intro hgood (And.intro hbad (And.intro hlen hP)))
            clear hgood hbad hlen hP hL hC hXB hlt' he hem hepm hstr hep hky hkp hNe e6 e7 e8 hr6 hc6 hlt hr
            have q1 : (p : Int) < (N : Int) := by omega
            have q2 : ¬ (p : Int) < 0 := by omega
            have d1 : decide ((N : Int) ≤ (p : Int)) = false := decide_eq_false (by omega)
            have d2 : decide (N ≤ p) = false := decide_eq_false (by omega)
            by_cases hip : i = p
            · subst hip
              by_cases hkk : ky = kp
              · subst hkk
                clear hp
                gi_wp2_with fail
                refine region_quiet_round l rfl (by kernel_rfl) (by kernel_rfl) (by kernel_rfl) ?_
                repeat (gi_big_quiet_step (fail))
                refine wpQuietIn_nil ?_
                intro _ hw'
                obtain ⟨nq, hw''⟩ := hw'
                subst hw''
                have hbq : Below W.heap.size W (W.drewN nq) := ⟨rfl, rfl, rfl, Nat.le_refl _, fun _ _ => rfl⟩
                have hkq : KeepsFrom W0dn.heap.size W (W.drewN nq) := ⟨Nat.le_refl _, fun _ _ _ h _ => h⟩
                have HLq := Lib.hid (HL.out.below hbq)
                have hcq : Boxed (W.drewN nq) r13_1 3 (.int .i64 (i : Int)) := by have := HC'.out; rw [show (pre.length : Int) = (i : Int) from by rw [HP.out]] at this; exact this
                have HCq := Lib.hid hcq
                have hx0q : (W.drewN nq).cell? ⟨X, 0, none⟩ = some (.string ky) := x0
                have hzq : W.heap.size = (W.drewN nq).heap.size := rfl
                obtain ⟨Wq, hWq⟩ : ∃ Wq, W.drewN nq = Wq := ⟨_, rfl⟩
                rw [hWq] at hkq HLq HCq hx0q hzq ⊢
                have c5 := HLq.out.b5.cell
                have HKQ := Lib.hid (And.intro hkq hzq)
                clear c4 f4 c10 c13 x0 x3 hkc hbq hkq hcq hzq hWq d1 d2
                gi_wp2_with fail
                refine ⟨trivial, (CallsIn.inRound l (callsIn_wide.2 (HLq.out.any.delete ky hksz))).mono ?_⟩
                rintro e W2 ⟨⟨bd2, rfl⟩, hA2, hk2⟩
                have HL2 := Lib.hid (HLq.out.beside hk2 hA2)
                have hC2 := HLq.out.any.cells hk2 (by decide) (by decide) HCq.out
                have HC2 := Lib.hid (show Boxed W2 r13_1 3 (.int .i64 (i : Int)) from hC2)
                have HK2 := Lib.hid (And.intro (HKQ.out.1.trans (hk2.keeps ha1 hm1.1)) hk2.size)
                have c13 := HC2.out.cell
                have f13 := HC2.out.frozen
                clear hA2 hk2 hC2 c5 hx0q
                gi_wp2
                have hLe := HL2.out.count (u := .int .i64 ((i : Int) + 1)) HC2.out hB1
                refine ⟨HK2.out.1.trans ((KeepsOthers.setCell _ _ _).from _), hLe.ent.row.trans HL.out.ent.row.symm, ⟨⟨hLe, ?_⟩, HG.out.1 trivial trivial, ?_⟩⟩
                · rw [HG.out.2.2.1]
                  exact HC2.out.set _
                · have := HKQ.out.2
                  have := HK2.out.2
                  have := HLR.out
                  simp
                  omega
              · have e1 : (ky.toList == kp.toList) = false := (bytes_beq_false_iff ky kp).2 hkk
                have e2 : (ky == kp) = false := by rw [beq_toListBytes]; exact e1
                have e3 : decide (ky = kp) = false := by simpa using hkk
                clear hp
                gi_wp2_with fail
                refine region_quiet_round l rfl (by kernel_rfl) (by kernel_rfl) (by kernel_rfl) ?_
                repeat (gi_big_quiet_step (fail))
                refine wpQuietIn_nil ?_
                intro _ hw'
                obtain ⟨nq, hw''⟩ := hw'
                subst hw''
                have HLq := Lib.hid (HL.out.below (⟨rfl, rfl, rfl, Nat.le_refl _, fun _ _ => rfl⟩ : Below W.heap.size W (W.drewN nq)))
                have hkq : KeepsFrom W0dn.heap.size W (W.drewN nq) := ⟨Nat.le_refl _, fun _ _ _ h _ => h⟩
                have HKQ := Lib.hid hkq
                obtain ⟨Wq, hWq⟩ : ∃ Wq, W.drewN nq = Wq := ⟨_, rfl⟩
                rw [hWq] at HKQ HLq ⊢
                have c4 := HLq.out.b4.cell
                have f4 := HLq.out.b4.frozen
                clear c10 c13 c5 x0 x3 hkc hkq hWq d1 d2
                gi_wp2
                exact ⟨HKQ.out.trans ((KeepsOthers.setCell _ _ _).from _), rfl, fun h => hkk (HG.out.2.1 h).2⟩
            · have e1 : ((i : Int) == (p : Int)) = false := by simpa using (show ¬ (i : Int) = (p : Int) by omega)
              have e2 : ((i : Int) != (p : Int)) = true := by simpa using (show ¬ (i : Int) = (p : Int) by omega)
              have e3 : decide ((i : Int) = (p : Int)) = false := decide_eq_false (by omega)
              have e4 : decide (i = p) = false := decide_eq_false hip
              have e5 : (i == p) = false := by simpa using hip
              clear hp
              gi_wp2_with fail
              refine region_quiet_round l rfl (by kernel_rfl) (by kernel_rfl) (by kernel_rfl) ?_
              repeat (gi_big_quiet_step (fail))
              refine wpQuietIn_nil ?_
              intro _ hw'
              obtain ⟨nq, hw''⟩ := hw'
              subst hw''
              have HLq := Lib.hid (HL.out.below (⟨rfl, rfl, rfl, Nat.le_refl _, fun _ _ => rfl⟩ : Below W.heap.size W (W.drewN nq)))
              have hkq : KeepsFrom W0dn.heap.size W (W.drewN nq) := ⟨Nat.le_refl _, fun _ _ _ h _ => h⟩
              have HKQ := Lib.hid hkq
              obtain ⟨Wq, hWq⟩ : ∃ Wq, W.drewN nq = Wq := ⟨_, rfl⟩
              rw [hWq] at HKQ HLq ⊢
              have c4 := HLq.out.b4.cell
              have f4 := HLq.out.b4.frozen
              clear c10 c13 c5 x0 x3 hkc hkq hWq d1 d2
              gi_wp2
              exact ⟨HKQ.out.trans ((KeepsOthers.setCell _ _ _).from _), rfl, fun h => hip (HG.out.2.1 h).1⟩
          case done1 =>
            rintro D1 xs W1d hD1 hS1 ⟨⟨hLd, hCd⟩, -, hzd⟩ hK1
            have hlen1 : xs.length = N := by rw [plF_len hS1]; exact HNN.out
            rw [hlen1] at hCd
            have HLd1 := Lib.hid (show Lp2 w W1d B a m B r5 r10 g BE gE els.length (.slice A5 N cap5) (els.map T.key) cur curE 401 [D1, D0] from ⟨hLd.any, hLd.b4, hLd.b5, hLd.b10, hLd.bE, hLd.own, hLd.want, hLd.ent, hLd.low, hLd.size, fun D hD => by
              rcases List.mem_cons.1 hD with q | q
              · subst q
                exact ⟨hK1, by omega, by omega, by omega⟩
              · exact hLd.ds D q⟩)
            have c13 := hCd.cell
            have c10 := hLd.b10.cell
            clear hLd hCd hS1 hlen1 hL1 hC1
            gi_wp2
            rw [roundsIn_succ]
            gi_wp2
            have hcs : cur.size = N := HC.out.1
            have HL3 := Lib.hid (show Lp3 w W1d B a m B r5 g cur 401 [D1, D0] from ⟨HLd1.out.any, HLd1.out.b4, HLd1.out.b5, HLd1.out.want, HLd1.out.low, HLd1.out.size, fun D hD => ⟨(HLd1.out.ds D hD).1, (HLd1.out.ds D hD).2.2.2⟩⟩)
            have hD01 : D0 < D1 := by have := hd1 D0 (by simp); omega
            clear c13 c10
            gi_loopw [102] (fun v wr => ∃ (k2 : Nat) (cu : Array Value), v = .int .i64 (k2 : Int) ∧ k2 ≤ N ∧ cu.size = N ∧ Lp3 w wr B a m B r5 g cu 401 [D1, D0]) (fun v _ => N - (RowKit.intOf v).toNat)
            case atStart => exact ⟨0, cur, rfl, Nat.zero_le _, hcs, HL3.out⟩
            case round =>
              obtain ⟨k2, cu, rfl, hk2, hcu, hL⟩ := hrel
              have HLr := Lib.hid hL
              by_cases hlt2 : k2 < N
              · obtain ⟨u, hu⟩ : ∃ u, cu[k2]? = some u := ⟨_, Array.getElem?_eq_getElem (by omega)⟩
                have r2 := (hL.want.cell k2).trans hu
                have f2 := hL.want.fro k2
                have HP := Lib.hid (hL.put hg1 k2 (.string ⟨#[63]⟩))
                have q1 : (k2 : Int) < (N : Int) := by omega
                have q2 : ¬ (k2 : Int) < 0 := by omega
                clear hL hu
                gi_wp2
                go_roundw
                case rel => exact ⟨k2 + 1, _, by go_num, by omega, by simpa using hcu, HP.out⟩
                case measure => simp [RowKit.intOf]; omega
              · obtain rfl : k2 = N := by omega
                obtain ⟨n5, came5, T5, els5, E5, hS5, -, -, -, hl5, -, -, -⟩ := hL.any
                have HS5 := Lib.hid hS5
                obtain ⟨N5, hN5⟩ : ∃ N5, els5.length = N5 := ⟨_, rfl⟩
                have HN5 := Lib.hid hN5
                have CK5 := Lib.hid (hS5.keys (by omega) ⟨#[]⟩)
                rw [hN5] at CK5 hl5
                have c5 := hL.b5.cell
                clear hL hS5 hN5
                gi_wp2_with fail
                refine ⟨trivial, (callsIn_wide.2 CK5.out).mono ?_⟩
                rintro e W6 ⟨g6, cur6, rfl, hg6, hF6, hc6, hb6⟩
                have HL6 := Lib.hid (HLr.out.below hb6)
                have HS6 := Lib.hid (HS5.out.below hb6)
                have HF6 := Lib.hid (And.intro hF6 hc6)
                have c5 := HL6.out.b5.cell
                clear hF6 hc6 hb6 hg6 CK5 HLr HS5
                gi_wp2
                gi_loop [116] (fun i => ∃ k3 : Nat, i = .int .i64 (k3 : Int) ∧ k3 ≤ N5) (fun i => N5 - (RowKit.intOf i).toNat)
                case atStart => exact ⟨0, rfl, Nat.zero_le _⟩
                case round =>
                  obtain ⟨k3, rfl, hk3⟩ := hrel
                  by_cases hlt3 : k3 < N5
                  · obtain ⟨e5, he5⟩ : ∃ e, els5[k3]? = some e := ⟨_, List.getElem?_eq_getElem (by rw [HN5.out]; exact hlt3)⟩
                    have he5m : e5 ∈ els5 := List.mem_of_getElem? he5
                    have HE5 := Lib.hid he5m
                    have r6 := (HF6.out.1.cell k3).trans (HF6.out.2.2 k3 e5 he5)
                    have q1 : (k3 : Int) < (N5 : Int) := by omega
                    have q2 : ¬ (k3 : Int) < 0 := by omega
                    by_cases hq : T5.key e5 = ⟨#[63]⟩
                    · have hKd := HS6.out.kind_yes he5m
                      rw [hq] at hKd r6
                      have CKd := Lib.hid hKd
                      clear he5 he5m hKd hq
                      gi_wp2_with fail
                      refine ⟨trivial, (callsIn_wide.2 CKd.out).mono ?_⟩
                      rintro e w' ⟨rfl, rfl⟩
                      gi_wp2
                      go_round
                      case rel => exact ⟨k3 + 1, by go_num, by omega⟩
                      case measure => simp [RowKit.intOf]; omega
                    · have e1 : ((T5.key e5).toList == (⟨#[63]⟩ : ByteArray).toList) = false := (bytes_beq_false_iff _ _).2 hq
                      have e2 : (T5.key e5 == (⟨#[63]⟩ : ByteArray)) = false := by rw [beq_toListBytes]; exact e1
                      have e3 : decide (T5.key e5 = (⟨#[63]⟩ : ByteArray)) = false := decide_eq_false hq
                      have e4 : ¬ (T5.key e5).toList = [63] := fun h => hq (ByteArray.ext (Array.toList_inj.mp (by rw [ByteArray.toList_eq] at h; exact h)))
                      have e5' : ((T5.key e5).toList == [63]) = false := beq_eq_false_iff_ne.2 e4
                      have e6 : decide ((T5.key e5).toList = [63]) = false := decide_eq_false e4
                      clear he5 he5m
                      gi_wp2
                      refine ⟨trivial, ?_⟩
                      gi_wp2
                      go_round
                      case rel => exact ⟨k3 + 1, by go_num, by omega⟩
                      case measure => simp [RowKit.intOf]; omega
                  · obtain rfl : k3 = N5 := by omega
                    have c4 := HL6.out.b4.cell
                    have f4 := HL6.out.b4.frozen
                    gi_wp2
                    have kB := HL6.out.ds D1 (by simp)
                    have kA := HL6.out.ds D0 (by simp)
                    have kY : KeepsOthers W6 (W6.setCell ⟨B, 0, none⟩ (.bool true)) := KeepsOthers.setCell _ _ _
                    have bY := HL6.out.b4.set (.bool true)
                    have hBY : Below w.heap.size w (W6.setCell ⟨B, 0, none⟩ (.bool true)) := by rw [HB.out]; exact HL6.out.low.setCell (p := ⟨B, 0, none⟩) (Nat.le_refl _) _
                    obtain ⟨Y, hY⟩ : ∃ Y, W6.setCell ⟨B, 0, none⟩ (.bool true) = Y := ⟨_, rfl⟩
                    rw [hY] at kY bY hBY ⊢
                    have kD2 := kY.same D1 _ kB.1 rfl
                    have kD := kY.same D0 _ kA.1 rfl
                    have kD' : (Y.putObj D1 (.deferred none)).heap[D0]? = some (.deferred (some [])) := (World.putObj_heap_other (by omega)).trans kD
                    have hne1 : B ≠ D1 := fun q => by
                      have h1 : Y.heap[B]? = some (.cells #[.bool true] 4 (0, 0)) := bY
                      rw [q, kD2] at h1
                      cases h1
                    have hne0 : B ≠ D0 := fun q => by
                      have h1 : Y.heap[B]? = some (.cells #[.bool true] 4 (0, 0)) := bY
                      rw [q, kD] at h1
                      cases h1
                    have b1 : Boxed (Y.putObj D1 (.deferred none)) B 4 (.bool true) := bY.kept (grownBy_putObj' Y D1 _) (fun e => hne1 (Option.some.inj e))
                    have b2 : Boxed ((Y.putObj D1 (.deferred none)).putObj D0 (.deferred none)) B 4 (.bool true) := b1.kept (grownBy_putObj' _ D0 _) (fun e => hne0 (Option.some.inj e))
                    have cY := b2.cell
                    have hw0 := HB.out
                    refine ⟨by simp, .inl ⟨_, _, rfl, run_takeDeferred kD2, by simp, .inl ⟨_, _, rfl, run_takeDeferred kD', .bool true, ?_, rfl, ?_⟩⟩⟩
                    · simp [results, Tryz.results4, go_sem, cY]
                    · exact (hBY.trans (belowK_b (w := w) (Nat.le_refl _) Y D1 _ _ (by omega) kD2 rfl rfl)).trans (belowK_b (w := w) (Nat.le_refl _) _ D0 _ _ (by omega) kD' rfl rfl)
            
          case stop1 =>
            rintro D c pre W hD ⟨k, _, hk⟩ ⟨_, hne⟩ _
            exact absurd (by rw [plF_len hk]; exact hk) hne
        case stop0 =>
          rintro D c pre W hD ⟨k, _, hk⟩ ⟨_, hne⟩ _
          exact absurd (by rw [plF_len hk]; exact hk) hne
theorem assocLoops_any (A : Option Addr) (ca : Nat) (ss : List ByteArray) (drop : ByteArray) (w : World) (hs : ∀ s ∈ ss, s.size ≤ 281474976710656) (hr : RdS w A ss) (hd : drop.size ≤ 281474976710656) (hll : ss.length ≤ 9223372036854775807) :
    Calls Tryz.prog 4 #[.slice A ss.length ca, .string drop] w fun e w' => e = .returned (.bool true) ∧ Below w.heap.size w w' := callsIn_wide.1 (assocLoops_in A ca ss drop w hs hr hd hll)
end Go.Proofs.YtnbagigbaceonaaGreatDoor
