/- Several texts in one (Contracts of layer 8: the calls, on an array of values; Contracts of layer 8: what an array of values shows; Contracts of layer 8: what a key set, or deleted, leaves; Contracts of layer 8: a row of keys beside an array; the laws' texts; The walk of the law AssocKeeps; The walk of the law AssocKeeps). -/
import Derived.Maps.AppendAt
import Derived.Deep.QuietTactic
import Derived.BigQuiet
import Derived.IntWalk
import Derived.Test.YtnbagigbaceonaaGreatDoorQak3
namespace Go.Proofs.YtnbagigbaceonaaGreatDoor
open Go.RowKit Go.Lib Go.Maps

theorem Arr.ne_elt {W : World} {a m n e : Nat} {came : Int} {D : AD} (h : Arr W a m n came D) {T : Tab} (he : EltT W T e) : a ≠ e ∧ m ≠ e := by
  constructor
  · intro q
    subst q
    have h1 := h.row.row
    rw [he.row] at h1
    injection h1 with h1
    injection h1 with h1 h2
    have := congrArg Array.size h1
    cases this
  · intro q
    subst q
    obtain ⟨es, clock, hb, -⟩ := h.own
    rw [he.row] at hb
    cases hb
theorem St.set_new {W : World} {a m n : Nat} {came : Int} {T : Tab} {els : List Nat} {E : List (Lit × Nat)} (h : St W a m n came T els E) (s : ByteArray) (hs : s.size ≤ 281474976710656) (hn : n < maxLen) (hc0 : 0 ≤ came) (hc1 : came < 1000000) (hno : ∀ e ∈ els, T.key e ≠ s) (kind : Int) (N : Nat) (S : ByteArray) (hS : S.size ≤ 281474976710656) :
    Calls Tryz.prog 8 #[ptrB a, .string s, .agg #[.int .i64 kind, .float .f64 N, .string S]] W fun e w' => e = .returned (.int .i64 0) ∧ (∃ (el : Nat) (E' : List (Lit × Nat)), W.heap.size ≤ el ∧ el ∉ els ∧ St w' a m (n + 1) (came + 1) (T.upd el s came kind N S) (els ++ [el]) E') ∧ Off2 a m W w' := by
  refine (Go.Proofs.YtnbagigbaceonaaGreatDoor.set_new h.arr s hs hn hc0 hc1 (h.at_no hno _) kind N S hS).mono ?_
  rintro e w' ⟨rfl, ⟨el, hel, hA, hE⟩, hO⟩
  have hin : ∀ e ∈ els, e ≠ el := fun e he q => by
    have := (h.elt e he).1.lt
    omega
  obtain ⟨E', hP, hput⟩ := put_new (E := E) (kl := klS s) el fun p hp => by
    cases q : p.1.sameKey (klS s) with
    | false => rfl
    | true => exact absurd (klS_inj ((h.key p hp).symm.trans (WideAt.sameKey_eq q))) (hno p.2 (h.perm.mem_iff.2 (List.mem_map.2 ⟨p, hp, rfl⟩)))
  rw [hput] at hA
  have hto : ∀ p ∈ E, p.2 ≠ el := fun p hp => hin p.2 (h.perm.mem_iff.2 (List.mem_map.2 ⟨p, hp, rfl⟩))
  refine ⟨rfl, ⟨el, E', hel, fun hm => hin el hm rfl, ⟨hA, ?_, ?_, ?_, ?_⟩⟩, hO⟩
  · refine List.Perm.trans ?_ (hP.map (·.2)).symm
    rw [List.map_cons]
    exact List.perm_append_comm.trans (h.perm.cons el)
  · refine List.pairwise_append.2 ⟨h.ris.imp_of_mem fun {x y} hx hy hxy => ?_, List.pairwise_singleton _ _, fun x hx y hy => ?_⟩
    · show (if x = el then came else T.num x) < (if y = el then came else T.num y)
      rw [if_neg (hin x hx), if_neg (hin y hy)]
      exact hxy
    · rw [List.mem_singleton.1 hy]
      show (if x = el then came else T.num x) < (if el = el then came else T.num el)
      rw [if_neg (hin x hx), if_pos rfl]
      exact (h.elt x hx).2.2.2
  · intro p hp
    rcases List.mem_cons.1 (hP.mem_iff.1 hp) with q | q
    · subst q
      show klS s = klS (if el = el then s else T.key el)
      rw [if_pos rfl]
    · show p.1 = klS (if p.2 = el then s else T.key p.2)
      rw [if_neg (hto p q)]
      exact h.key p q
  · intro e he
    rcases List.mem_append.1 he with q | q
    · have h4 := h.elt e q
      have hx := h.arr.ne_elt h4.1
      have h1 : EltT w' (T.upd el s came kind N S) e := EltT.upd_other (hin e q) (Blk.off2 h4.1 hO hx.1.symm hx.2.symm)
      refine ⟨h1, ?_, ?_, ?_⟩
      · show (if e = el then s else T.key e).size ≤ _
        rw [if_neg (hin e q)]; exact h4.2.1
      · show (if e = el then S else T.str e).size ≤ _
        rw [if_neg (hin e q)]; exact h4.2.2.1
      · show (if e = el then came else T.num e) < _
        rw [if_neg (hin e q)]; have := h4.2.2.2; omega
    · rw [List.mem_singleton.1 q]
      refine ⟨EltT.upd_same hE, ?_, ?_, ?_⟩
      · show (if el = el then s else T.key el).size ≤ _
        rw [if_pos rfl]; exact hs
      · show (if el = el then S else T.str el).size ≤ _
        rw [if_pos rfl]; exact hS
      · show (if el = el then came else T.num el) < _
        rw [if_pos rfl]; omega
/-- Set, at a key that a value has. -/
theorem St.set_old {W : World} {a m n : Nat} {came : Int} {T : Tab} {els : List Nat} {E : List (Lit × Nat)} (h : St W a m n came T els E) {el : Nat} (he : el ∈ els) (kind : Int) (N : Nat) (S : ByteArray) (hS : S.size ≤ 281474976710656) :
    Calls Tryz.prog 8 #[ptrB a, .string (T.key el), .agg #[.int .i64 kind, .float .f64 N, .string S]] W fun e w' => e = .returned (.int .i64 0) ∧ St w' a m n came (T.upd el (T.key el) (T.num el) kind N S) els E ∧ Off2 el el W w' := by
  have h0 := h.elt el he
  refine (set_val h.arr (T.key el) h0.2.1 (h.at_yes he _) h0.1 (h.arr.ne_elt h0.1) kind N S hS).mono ?_
  rintro e w' ⟨rfl, hA, hE, hO⟩
  have hk : ∀ e, (T.upd el (T.key el) (T.num el) kind N S).key e = T.key e := fun e => by
    show (if e = el then T.key el else T.key e) = _
    by_cases q : e = el
    · rw [if_pos q, q]
    · rw [if_neg q]
  have hn : ∀ e, (T.upd el (T.key el) (T.num el) kind N S).num e = T.num e := fun e => by
    show (if e = el then T.num el else T.num e) = _
    by_cases q : e = el
    · rw [if_pos q, q]
    · rw [if_neg q]
  refine ⟨rfl, ⟨hA, h.perm, h.ris.imp fun hxy => by rw [hn, hn]; exact hxy, fun p hp => by rw [hk]; exact h.key p hp, fun e q => ?_⟩, hO⟩
  have h4 := h.elt e q
  rw [hk, hn]
  by_cases hq : e = el
  · subst hq
    refine ⟨EltT.upd_same hE, h4.2.1, ?_, h4.2.2.2⟩
    show (if e = e then S else T.str e).size ≤ _
    rw [if_pos rfl]; exact hS
  · refine ⟨EltT.upd_other hq (Blk.off2 h4.1 hO hq hq), h4.2.1, ?_, h4.2.2.2⟩
    show (if e = el then S else T.str e).size ≤ _
    rw [if_neg hq]; exact h4.2.2.1
theorem St.has_yes {W : World} {a m n : Nat} {came : Int} {T : Tab} {els : List Nat} {E : List (Lit × Nat)} (h : St W a m n came T els E) {el : Nat} (he : el ∈ els) : Maps.has (DataW.map (esOf E) : AD) (klS (T.key el)) = true := Maps.has_true_of_atKey (h.at_yes he)
theorem St.has_no {W : World} {a m n : Nat} {came : Int} {T : Tab} {els : List Nat} {E : List (Lit × Nat)} (h : St W a m n came T els E) {s : ByteArray} (hno : ∀ e ∈ els, T.key e ≠ s) : Maps.has (DataW.map (esOf E) : AD) (klS s) = false := Maps.has_false_of_atKey (h.at_no hno)
/-- Delete. -/
theorem St.delete {W : World} {a m n : Nat} {came : Int} {T : Tab} {els : List Nat} {E : List (Lit × Nat)} (h : St W a m n came T els E) (s : ByteArray) (hs : s.size ≤ 281474976710656) :
    Calls Tryz.prog 14 #[ptrB a, .string s] W fun e w' => e = .returned (.bool (Maps.has (DataW.map (esOf E) : AD) (klS s))) ∧ (∃ E', St w' a m n came T (els.filter fun e => !(klS (T.key e)).sameKey (klS s)) E') ∧ Off2 a m W w' := by
  refine (delete_any h.arr s hs).mono ?_
  rintro e w' ⟨rfl, hA, hO⟩
  rw [del_is] at hA
  refine ⟨rfl, ⟨_, ⟨hA, ?_, h.ris.filter _, fun p hp => h.key p (List.mem_filter.1 hp).1, fun e he => ?_⟩⟩, hO⟩
  · have h1 := h.perm.filter fun e => !(klS (T.key e)).sameKey (klS s)
    rw [List.filter_map] at h1
    refine h1.trans ?_
    rw [List.filter_congr (q := fun p : Lit × Nat => !p.1.sameKey (klS s)) fun p hp => by
      show (!(klS (T.key p.2)).sameKey (klS s)) = _
      rw [h.key p hp]]
  · have h4 := h.elt e (List.mem_filter.1 he).1
    have hx := h.arr.ne_elt h4.1
    exact ⟨Blk.off2 h4.1 hO hx.1.symm hx.2.symm, h4.2⟩
/-- Clear. -/
theorem St.clear {W : World} {a m n : Nat} {came : Int} {T : Tab} {els : List Nat} {E : List (Lit × Nat)} (h : St W a m n came T els E) :
    Calls Tryz.prog 15 #[ptrB a] W fun e w' => (∃ r, e = .returned r) ∧ St w' a m n came T [] [] ∧ Off2 a m W w' := by
  refine (clear_any h.arr).mono ?_
  rintro e w' ⟨hr, hA, hO⟩
  exact ⟨hr, ⟨hA, List.Perm.refl _, List.Pairwise.nil, fun p hp => absurd hp (by simp), fun e he => absurd he (by simp)⟩, hO⟩
/-- What lies elsewhere. -/
theorem St.below {W W' : World} {a m n : Nat} {came : Int} {T : Tab} {els : List Nat} {E : List (Lit × Nat)} (h : St W a m n came T els E) (hb : Below W.heap.size W W') : St W' a m n came T els E :=
  ⟨h.arr.kept hb, h.perm, h.ris, h.key, fun e he => ⟨Blk.below (h.elt e he).1 hb (h.elt e he).1.lt, (h.elt e he).2⟩⟩
theorem St.off2 {W W' : World} {a m n x y : Nat} {came : Int} {T : Tab} {els : List Nat} {E : List (Lit × Nat)} (h : St W a m n came T els E) (o : Off2 x y W W') (h1 : a ≠ x) (h2 : a ≠ y) (h3 : m ≠ x) (h4 : m ≠ y) (h5 : ∀ e ∈ els, e ≠ x ∧ e ≠ y) : St W' a m n came T els E :=
  ⟨h.arr.off2 o h1 h2 h3 h4, h.perm, h.ris, h.key, fun e he => ⟨Blk.off2 (h.elt e he).1 o (h5 e he).1 (h5 e he).2, (h.elt e he).2⟩⟩
/-- A row in order of number is the row as it came. -/
theorem St.order {W : World} {a m n : Nat} {came : Int} {T : Tab} {els : List Nat} {E : List (Lit × Nat)} (h : St W a m n came T els E) {ys : List Nat} (hp : ys.Perm (E.map (·.2))) (hs : ys.Pairwise (fun x y => T.num x ≤ T.num y)) : ys = els := by
  have hp2 : ys.Perm els := hp.trans h.perm.symm
  clear hp
  have hr := h.ris
  clear h
  induction els generalizing ys with
  | nil => exact hp2.eq_nil
  | cons x els ih =>
    cases ys with
    | nil => exact absurd hp2.symm.eq_nil (by simp)
    | cons y ys =>
      have hx := (List.pairwise_cons.1 hr).1
      have hy := (List.pairwise_cons.1 hs).1
      have e : y = x := by
        rcases List.mem_cons.1 (hp2.mem_iff.1 (List.mem_cons_self ..)) with q | q
        · exact q
        · have h1 := hx y q
          rcases List.mem_cons.1 (hp2.mem_iff.2 (List.mem_cons_self ..)) with r | r
          · exact r.symm
          · have h2 := hy x r
            omega
      subst e
      rw [ih (List.pairwise_cons.1 hs).2 (List.perm_cons y |>.1 hp2) (List.pairwise_cons.1 hr).2]
end Go.Proofs.YtnbagigbaceonaaGreatDoor

namespace Go.Proofs.YtnbagigbaceonaaGreatDoor
open Go.RowKit Go.Lib Go.Maps

theorem St.count {W : World} {a m n : Nat} {came : Int} {T : Tab} {els : List Nat} {E : List (Lit × Nat)} (h : St W a m n came T els E) : E.length = els.length := by
  have := h.perm.length_eq
  rw [List.length_map] at this
  exact this.symm
theorem St.each {W : World} {a m n : Nat} {came : Int} {T : Tab} {els : List Nat} {E : List (Lit × Nat)} (h : St W a m n came T els E) : ∀ p ∈ E, Elt W p.2 (T.key p.2) (T.num p.2) (T.kd p.2) (T.flt p.2) (T.str p.2) nilP ∧ (T.key p.2).size ≤ 281474976710656 ∧ (T.str p.2).size ≤ 281474976710656 := fun p hp => by
  have := h.elt p.2 (h.perm.mem_iff.2 (List.mem_map.2 ⟨p, hp, rfl⟩))
  exact ⟨this.1, this.2.1, this.2.2.1⟩
theorem St.keys {W : World} {a m n : Nat} {came : Int} {T : Tab} {els : List Nat} {E : List (Lit × Nat)} (h : St W a m n came T els E) (hl : els.length ≤ 1000) (conv : ByteArray) :
    Calls Tryz.prog 11 #[ptrB a, .string n0, .string conv] W fun e w' => ∃ (g : Nat) (cur : Array Value), e = .returned (.tuple #[.slice (some ⟨g, 0, none⟩) els.length els.length, .int .i64 0]) ∧ W.heap.size ≤ g ∧ Blk w' g cur 9 ∧ (cur.size = els.length ∧ ∀ (j e : Nat), els[j]? = some e → cur[j]? = some (Value.string (T.key e))) ∧ Below W.heap.size W w' := by
  refine (keysE_any T conv h.arr (by rw [h.count]; exact hl) h.each).mono ?_
  rintro e w' ⟨g, ys, cur, rfl, hP, hS, hg, hF, hc, hb⟩
  obtain rfl := h.order hP hS
  exact ⟨g, cur, rfl, hg, hF, hc, hb⟩
theorem St.all {W : World} {a m n : Nat} {came : Int} {T : Tab} {els : List Nat} {E : List (Lit × Nat)} (h : St W a m n came T els E) (hl : els.length ≤ 100000) :
    Calls Tryz.prog 17 #[ptrB a] W fun e w' => ∃ (B g : Nat) (cur : Array Value), e = .returned (.func (.func 35) #[] #[.pointer (some ⟨B, 0, none⟩)]) ∧ W.heap.size ≤ B ∧ Blk w' B #[.slice (some ⟨g, 0, none⟩) els.length els.length] 60 ∧ W.heap.size ≤ g ∧ g ≠ B ∧ Blk w' g cur 46 ∧ Filled T cur els els.length ∧ Below W.heap.size W w' := by
  refine (allE_any T h.arr (by rw [h.count]; exact hl) h.each).mono ?_
  rintro e w' ⟨B, g, ys, cur, rfl, hB, hBk, hP, hS, hg, hgB, hF, hc, hb⟩
  obtain rfl := h.order hP hS
  exact ⟨B, g, cur, rfl, hB, hBk, hg, hgB, hF, hc, hb⟩
theorem St.kind_yes {W : World} {a m n : Nat} {came : Int} {T : Tab} {els : List Nat} {E : List (Lit × Nat)} (h : St W a m n came T els E) {el : Nat} (he : el ∈ els) :
    Calls Tryz.prog 7 #[ptrB a, .string (T.key el)] W fun e w' => e = .returned (.int .i64 1) ∧ W = w' :=
  kindKey_any h.arr (T.key el) (by have := (h.elt el he).2.1; unfold maxLen; omega) (h.at_yes he _) (kind_val (h.elt el he).1)
theorem St.kind_no {W : World} {a m n : Nat} {came : Int} {T : Tab} {els : List Nat} {E : List (Lit × Nat)} (h : St W a m n came T els E) (s : ByteArray) (hs : s.size ≤ maxLen) (hno : ∀ e ∈ els, T.key e ≠ s) :
    Calls Tryz.prog 7 #[ptrB a, .string s] W fun e w' => e = .returned (.int .i64 0) ∧ W = w' :=
  kindKey_any h.arr s hs (h.at_no hno _) (kind_nil W)
theorem St.get {W : World} {a m n : Nat} {came : Int} {T : Tab} {els : List Nat} {E : List (Lit × Nat)} (h : St W a m n came T els E) {el : Nat} (he : el ∈ els) :
    Calls Tryz.prog 10 #[ptrB a, .string (T.key el)] W fun e w' => e = .returned (.tuple #[.agg #[.int .i64 (T.kd el), .float .f64 (T.flt el), .string (T.str el)], .bool true]) ∧ Below W.heap.size W w' :=
  get_val h.arr (T.key el) (h.elt el he).2.1 (h.at_yes he _) (h.elt el he).1 (h.elt el he).2.2.1
theorem St.len {W : World} {a m n : Nat} {came : Int} {T : Tab} {els : List Nat} {E : List (Lit × Nat)} (h : St W a m n came T els E) :
    Calls Tryz.prog 13 #[ptrB a] W fun e w' => e = .returned (.int .i64 (els.length : Int)) ∧ W = w' := by
  have e : Maps.size (DataW.map (esOf E) : AD) = els.length := by
    rw [← h.count]
    show (esOf E).length = E.length
    unfold esOf
    rw [List.length_map]
  have := asLen_any h.arr
  rw [e] at this
  exact this
end Go.Proofs.YtnbagigbaceonaaGreatDoor

namespace Go.Proofs.YtnbagigbaceonaaGreatDoor
open Go.RowKit Go.Lib Go.Maps

theorem St.total_none {W : World} {a m n : Nat} {came : Int} {T : Tab} (h : St W a m n came T [] []) :
    Calls Tryz.prog 16 #[ptrB a] W fun e w' => e = .returned (.int .i64 0) ∧ Below W.heap.size W w' :=
  total_any (es := []) h.arr (fun _ => 0) (fun p hp => absurd hp (by simp)) (by simp) (fun p hp => absurd hp (by simp))
theorem St.find {W : World} {a m n : Nat} {came : Int} {T : Tab} {els : List Nat} {E : List (Lit × Nat)} (_ : St W a m n came T els E) (s : ByteArray) : (∃ el ∈ els, T.key el = s) ∨ ∀ e ∈ els, T.key e ≠ s := by
  by_cases q : ∃ el ∈ els, T.key el = s
  · exact .inl q
  · exact .inr fun e he hk => q ⟨e, he, hk⟩
theorem upd_key_old (T : Tab) (el : Nat) (num kd : Int) (N : Nat) (S : ByteArray) : (T.upd el (T.key el) num kd N S).key = T.key := by
  funext e
  show (if e = el then T.key el else T.key e) = _
  by_cases q : e = el
  · rw [if_pos q, q]
  · rw [if_neg q]
theorem upd_key_new (T : Tab) {els : List Nat} {el : Nat} (hno : el ∉ els) (s : ByteArray) (num kd : Int) (N : Nat) (S : ByteArray) : (els ++ [el]).map (T.upd el s num kd N S).key = els.map T.key ++ [s] := by
  rw [List.map_append]
  congr 1
  · refine List.map_congr_left fun e he => ?_
    show (if e = el then s else T.key e) = _
    rw [if_neg (show ¬ e = el from fun q => hno (by rw [← q]; exact he))]
  · show [if el = el then s else T.key el] = _
    rw [if_pos rfl]
theorem upd_at (T : Tab) (el : Nat) (s : ByteArray) (num kd : Int) (N : Nat) (S : ByteArray) : (T.upd el s num kd N S).key el = s ∧ (T.upd el s num kd N S).kd el = kd ∧ (T.upd el s num kd N S).flt el = N ∧ (T.upd el s num kd N S).str el = S := ⟨if_pos rfl, if_pos rfl, if_pos rfl, if_pos rfl⟩
/-- What stays behind a Delete. -/
def rest (T : Tab) (s : ByteArray) (els : List Nat) : List Nat := els.filter fun e => !(klS (T.key e)).sameKey (klS s)
theorem rest_iff (T : Tab) (s : ByteArray) (e : Nat) : (!(klS (T.key e)).sameKey (klS s)) = true ↔ T.key e ≠ s := by
  constructor
  · intro h q
    rw [q, WideAt.sameKey_self (klS_key s)] at h
    cases h
  · intro h
    cases q : (klS (T.key e)).sameKey (klS s) with
    | false => rfl
    | true => exact absurd (klS_inj (WideAt.sameKey_eq q)) h
theorem rest_gone (T : Tab) (s : ByteArray) (els : List Nat) : ∀ e ∈ rest T s els, T.key e ≠ s := fun e he => (rest_iff T s e).1 (List.mem_filter.1 he).2
theorem rest_no (T : Tab) (s : ByteArray) {els : List Nat} (h : ∀ e ∈ els, T.key e ≠ s) : rest T s els = els := List.filter_eq_self.2 fun e he => (rest_iff T s e).2 (h e he)
theorem rest_len {T : Tab} {s : ByteArray} : ∀ {els : List Nat} {el : Nat}, els.Pairwise (fun x y => T.num x < T.num y) → el ∈ els → (∀ e ∈ els, T.key e = s ↔ e = el) → (rest T s els).length + 1 = els.length := by
  intro els
  induction els with
  | nil => intro _ _ h; cases h
  | cons x els ih =>
    intro el hr he hu
    have hr1 := (List.pairwise_cons.1 hr).1
    have hr2 := (List.pairwise_cons.1 hr).2
    by_cases q : x = el
    · subst q
      have h1 : ∀ e ∈ els, T.key e ≠ s := fun e h2 h3 => by
        have h4 := (hu e (List.mem_cons_of_mem _ h2)).1 h3
        have h5 := hr1 e h2
        rw [h4] at h5
        omega
      have h2 : T.key x = s := (hu x (List.mem_cons_self ..)).2 rfl
      have h3 : rest T s (x :: els) = rest T s els := List.filter_cons_of_neg (by rw [rest_iff]; exact fun h => h h2)
      rw [h3, rest_no T s h1, List.length_cons]
    · have h2 : T.key x ≠ s := fun h => q ((hu x (List.mem_cons_self ..)).1 h)
      have h3 : rest T s (x :: els) = x :: rest T s els := List.filter_cons_of_pos ((rest_iff T s x).2 h2)
      have hm : el ∈ els := by
        rcases List.mem_cons.1 he with h | h
        · exact absurd h.symm q
        · exact h
      rw [h3, List.length_cons, List.length_cons, ih hr2 hm fun e h4 => hu e (List.mem_cons_of_mem _ h4)]
theorem St.rest_one {W : World} {a m n : Nat} {came : Int} {T : Tab} {els : List Nat} {E : List (Lit × Nat)} (h : St W a m n came T els E) {el : Nat} (he : el ∈ els) : (rest T (T.key el) els).length + 1 = els.length :=
  rest_len h.ris he fun e h1 => ⟨fun hk => h.keys_apart h1 he hk, fun hk => by rw [hk]⟩
end Go.Proofs.YtnbagigbaceonaaGreatDoor

namespace Go.Proofs.YtnbagigbaceonaaGreatDoor
open Go.RowKit Go.Lib Go.Maps

theorem own_off2 {w w' : World} {n : Nat} {t : TypeId} {z k x y : Nat} {v : Value} {xs : List Value} (h : w.ownsRow n t z v k xs) (o : Off2 x y w w') (hx : ∀ cur, w.heap[x]? ≠ some (.cells cur t (0, 0))) (hy : ∀ cur, w.heap[y]? ≠ some (.cells cur t (0, 0))) : w'.ownsRow n t z v k xs := by
  refine ⟨h.1, ?_⟩
  rcases h.2 with h0 | ⟨g, cap, cur, e, hn, hr, hz⟩
  · exact .inl h0
  · exact .inr ⟨g, cap, cur, e, hn, (o.block g (Array.getElem?_eq_some_iff.1 hr).1 (fun q => hx cur (q ▸ hr)) (fun q => hy cur (q ▸ hr))).trans hr, hz⟩
theorem own_below {w w' : World} {n : Nat} {t : TypeId} {z k : Nat} {v : Value} {xs : List Value} (h : w.ownsRow n t z v k xs) (hb : Below w.heap.size w w') : w'.ownsRow n t z v k xs := by
  refine ⟨h.1, ?_⟩
  rcases h.2 with h0 | ⟨g, cap, cur, e, hn, hr, hz⟩
  · exact .inl h0
  · exact .inr ⟨g, cap, cur, e, hn, (hb.block g (Array.getElem?_eq_some_iff.1 hr).1).trans hr, hz⟩
theorem own_block {w : World} {n : Nat} {t : TypeId} {z k : Nat} {v : Value} {xs : List Value} (h : w.ownsRow n t z v k xs) : ∀ j, v.ownBlock = some j → n ≤ j ∧ ∃ cur, w.heap[j]? = some (.cells cur t (0, 0)) := fun j hj => by
  rcases h.2 with ⟨rfl, h0⟩ | ⟨g, cap, cur, e, hn, hr, hz⟩
  · cases hj
  · rw [e] at hj
    cases hj
    exact ⟨hn, cur, hr⟩
theorem Blk.not_of {W : World} {g : Nat} {cs : Array Value} {t s : TypeId} (h : Blk W g cs t) (ht : t ≠ s) : ∀ cur, W.heap[g]? ≠ some (.cells cur s (0, 0)) := fun cur q => by
  rw [h.row] at q
  injection q with q
  injection q with q1 q2
  exact ht q2
theorem Arr.not_map {W : World} {a m n : Nat} {came : Int} {D : AD} (h : Arr W a m n came D) (s : TypeId) : ∀ cur, W.heap[m]? ≠ some (.cells cur s (0, 0)) := fun cur q => by
  obtain ⟨es, clock, hb, -⟩ := h.own
  rw [hb] at q
  cases q
theorem Arr.grown {W W' : World} {a m n : Nat} {came : Int} {D : AD} {r : Option Nat} (h : Arr W a m n came D) (hg : W.grownBy W' r) (hr : ∀ j, r = some j → ∃ cur, W.heap[j]? = some (.cells cur 9 (0, 0))) : Arr W' a m n came D := by
  refine ⟨h.row.grown hg fun q => ?_, ?_⟩
  · obtain ⟨cur, hc⟩ := hr a q.symm
    exact h.row.not_of (by decide) cur hc
  · have hlt := h.own.lt
    have hne : some m ≠ r := fun q => by
      obtain ⟨cur, hc⟩ := hr m q.symm
      exact h.not_map _ cur hc
    obtain ⟨es, clock, hh, F, hs, hD⟩ := h.own
    exact ⟨es, clock, (hg.block m hlt hne).trans hh, F, hs, hD⟩
theorem St.grown {W W' : World} {a m n : Nat} {came : Int} {T : Tab} {els : List Nat} {E : List (Lit × Nat)} {r : Option Nat} (h : St W a m n came T els E) (hg : W.grownBy W' r) (hr : ∀ j, r = some j → ∃ cur, W.heap[j]? = some (.cells cur 9 (0, 0))) : St W' a m n came T els E :=
  ⟨h.arr.grown hg hr, h.perm, h.ris, h.key, fun e he => ⟨Blk.grown (h.elt e he).1 hg fun q => by
    obtain ⟨cur, hc⟩ := hr e q.symm
    exact Blk.not_of (h.elt e he).1 (by decide) cur hc, (h.elt e he).2⟩⟩
/-- What lies beside an array, when the array turns. -/
theorem St.own_off {W W' : World} {a m n : Nat} {came : Int} {T : Tab} {els : List Nat} {E : List (Lit × Nat)} (h : St W a m n came T els E) {B k : Nat} {v : Value} {xs : List Value} (hO : W.ownsRow B 9 1 v k xs) (o : Off2 a m W W') : W'.ownsRow B 9 1 v k xs :=
  own_off2 hO o (h.arr.row.not_of (by decide)) (h.arr.not_map _)
theorem St.own_elt {W W' : World} {a m n : Nat} {came : Int} {T : Tab} {els : List Nat} {E : List (Lit × Nat)} (h : St W a m n came T els E) {e : Nat} (he : e ∈ els) {B k : Nat} {v : Value} {xs : List Value} (hO : W.ownsRow B 9 1 v k xs) (o : Off2 e e W W') : W'.ownsRow B 9 1 v k xs :=
  own_off2 hO o (Blk.not_of (h.elt e he).1 (by decide)) (Blk.not_of (h.elt e he).1 (by decide))
theorem rds_own {W : World} {B n : Nat} {v : Value} {xs : List ByteArray} (hn : xs.length = n) (h : W.ownsRow B 9 1 v n (xs.map Value.string)) : ∃ A cap, v = .slice A n cap ∧ RdS W A xs := by
  subst hn
  rcases h.2 with ⟨rfl, h0⟩ | ⟨q, cap, cur, rfl, hb, hg, h1, h2, h3, h4⟩
  · exact ⟨none, 0, by rw [h0], fun j hj => absurd hj (by omega)⟩
  · refine ⟨_, cap, rfl, fun j hj => ⟨q, 0, rfl, ?_⟩⟩
    have hc := World.ownsRow.cellAt h j (by omega)
    rw [Nat.zero_add, hc]
    simp [hj]
theorem rds_keys {W : World} {g : Nat} {cur : Array Value} {T : Tab} {els : List Nat} (hF : Blk W g cur 9) (hc : ∀ (j e : Nat), els[j]? = some e → cur[j]? = some (Value.string (T.key e))) : RdS W (some ⟨g, 0, none⟩) (els.map T.key) := fun j hj => by
  rw [List.length_map] at hj
  refine ⟨g, 0, rfl, ?_⟩
  rw [Nat.zero_add, hF.cell, hc j els[j] (List.getElem?_eq_getElem hj), List.getElem_map]
end Go.Proofs.YtnbagigbaceonaaGreatDoor

namespace Go.Proofs.YtnbagigbaceonaaGreatDoor
open Go.RowKit Go.Lib Go.Maps

set_option maxRecDepth 100000 in
set_option maxHeartbeats 2000000 in
theorem texts_same {W : World} {A B : Option Addr} {n ca cb : Nat} {xs : List ByteArray} (hn : xs.length = n) (hl : n ≤ 100000) (ha : RdS W A xs) (hb : RdS W B xs) :
    Calls Tryz.prog 12 #[.slice A n ca, .slice B n cb] W fun e w' => e = .returned (.bool true) ∧ Below W.heap.size W w' := by
  have HA := Lib.hid ha
  have HB := Lib.hid hb
  have HN := Lib.hid hn
  clear ha hb hn
  go_enter Tryz.func12, Tryz.ntmps12
  go_wp2_with fail
  go_loopw [13] (fun iv wr => ∃ k : Nat, iv = .int .i64 (k : Int) ∧ k ≤ n ∧ Below W.heap.size W wr) (fun iv _ => n - (RowKit.intOf iv).toNat)
  case atStart => exact ⟨0, rfl, Nat.zero_le _, Below.refl _ _⟩
  case round =>
    obtain ⟨k, rfl, hk, hB⟩ := hrel
    have HBW := Lib.hid hB
    by_cases hlt : k < n
    · have hkl : k < xs.length := by rw [HN.out]; exact hlt
      obtain ⟨b1, o1, rfl, c1⟩ := HA.out k hkl
      obtain ⟨b2, o2, rfl, c2⟩ := HB.out k hkl
      obtain ⟨s, hs⟩ : ∃ s, xs[k] = s := ⟨_, rfl⟩
      rw [hs] at c1 c2
      have r1 := (hB.cell (p := ⟨b1, o1 + k, none⟩) (World.block_lt_of_cell? W _ c1)).trans c1
      have r2 := (hB.cell (p := ⟨b2, o2 + k, none⟩) (World.block_lt_of_cell? W _ c2)).trans c2
      have q1 : (k : Int) < (n : Int) := by omega
      have q2 : ¬ (k : Int) < 0 := by omega
      clear c1 c2 hs hkl hB
      go_wp2_with fail
      go_quiet (fail)
      all_goals
        go_wp2_with fail
        refine ⟨⟨k + 1, rfl, by omega, ?_⟩, ?_⟩
        · exact ⟨HBW.out.os, HBW.out.tape, HBW.out.output, HBW.out.size, HBW.out.block⟩
        · simp [RowKit.intOf]
          omega
    · obtain rfl : k = n := by omega
      go_wp2_with fail
      go_ret
      exact ⟨rfl, HBW.out⟩
end Go.Proofs.YtnbagigbaceonaaGreatDoor

namespace Go.Proofs.YtnbagigbaceonaaGreatDoor
open Go.RowKit Go.Lib Go.Maps

/-- What the array holds, and the row 'order' beside it. -/
structure Kps (w W : World) (B a m : Nat) (T : Tab) (els : List Nat) (E : List (Lit × Nat)) (ov : Value) : Prop where
  st : St W a m els.length (els.length : Int) T els E
  own : W.ownsRow B 9 1 ov els.length ((els.map T.key).map Value.string)
  up : ∀ e ∈ els, B ≤ e
  low : Below B w W
  size : B ≤ W.heap.size
theorem Kps.below {w W W' : World} {B a m : Nat} {T : Tab} {els : List Nat} {E : List (Lit × Nat)} {ov : Value} (h : Kps w W B a m T els E ov) (hb : Below W.heap.size W W') : Kps w W' B a m T els E ov :=
  ⟨h.st.below hb, own_below h.own hb, h.up, h.low.trans (hb.mono h.size), Nat.le_trans h.size hb.size⟩
theorem info_strS : (Tryz.prog.info? 9).map (fun i => (i.zero, i.size, i.bytes)) = some (some (.string ⟨#[]⟩), 1, 16) := by kernel_rfl
/-- Set, at a key that is there: the row beside it stands. -/
theorem Kps.set_old {w W : World} {B a m : Nat} {T : Tab} {els : List Nat} {E : List (Lit × Nat)} {ov : Value} (h : Kps w W B a m T els E ov) {el : Nat} (he : el ∈ els) {v : ByteArray} (hv : v.size ≤ 281474976710656) :
    Calls Tryz.prog 8 #[ptrB a, .string (T.key el), .agg #[.int .i64 2, .float .f64 0, .string v]] W fun e w' => e = .returned (.int .i64 0) ∧ ∃ T', Kps w w' B a m T' els E ov ∧ T'.key el = T.key el ∧ T'.kd el = 2 ∧ T'.flt el = 0 ∧ T'.str el = v := by
  refine (h.st.set_old he 2 0 v hv).mono ?_
  rintro e w' ⟨rfl, hS, hO⟩
  obtain ⟨u1, u2, u3, u4⟩ := upd_at T el (T.key el) (T.num el) 2 0 v
  refine ⟨rfl, _, ⟨hS, ?_, h.up, h.low.trans (hO.below (h.up el he) (h.up el he) h.size), Nat.le_trans h.size hO.size⟩, u1, u2, u3, u4⟩
  rw [upd_key_old]
  exact h.st.own_elt he h.own hO
/-- Set, at a key that is new and stands in the row. -/
theorem Kps.set_new {w W : World} {B a m : Nat} {T : Tab} {els : List Nat} {E : List (Lit × Nat)} {ov : Value} {s : ByteArray} (h : St W a m els.length (els.length : Int) T els E) (ho : W.ownsRow B 9 1 ov (els.length + 1) ((els.map T.key ++ [s]).map Value.string)) (hu : ∀ e ∈ els, B ≤ e) (hl : Below B w W) (hz : B ≤ W.heap.size) (ha : B ≤ a) (hm : B ≤ m)
    (hs : s.size ≤ 281474976710656) (hno : ∀ e ∈ els, T.key e ≠ s) (hn : els.length ≤ 1000) {v : ByteArray} (hv : v.size ≤ 281474976710656) :
    Calls Tryz.prog 8 #[ptrB a, .string s, .agg #[.int .i64 2, .float .f64 0, .string v]] W fun e w' => e = .returned (.int .i64 0) ∧ ∃ (T' : Tab) (el : Nat) (E' : List (Lit × Nat)), Kps w w' B a m T' (els ++ [el]) E' ov ∧ T'.key el = s ∧ T'.kd el = 2 ∧ T'.flt el = 0 ∧ T'.str el = v := by
  refine (h.set_new s hs (by unfold maxLen; omega) (by omega) (by omega) hno 2 0 v hv).mono ?_
  rintro e w' ⟨rfl, ⟨el, E', hel, hnew, hS⟩, hO⟩
  obtain ⟨u1, u2, u3, u4⟩ := upd_at T el s (els.length : Int) 2 0 v
  have hlen : (els ++ [el]).length = els.length + 1 := by simp
  refine ⟨rfl, _, el, E', ⟨?_, ?_, ?_, hl.trans (hO.below ha hm hz), Nat.le_trans hz hO.size⟩, u1, u2, u3, u4⟩
  · rw [hlen, Int.natCast_add]
    exact hS
  · rw [hlen, upd_key_new T hnew]
    exact h.own_off ho hO
  · intro e he
    rcases List.mem_append.1 he with q | q
    · exact hu e q
    · rw [List.mem_singleton.1 q]
      omega
set_option maxRecDepth 100000 in
set_option maxHeartbeats 8000000 in
theorem assocKeeps_any (A Av : Option Addr) (ca cv : Nat) (ss vs : List ByteArray) (gone : ByteArray) (w : World) (hs : ∀ s ∈ ss, s.size ≤ 281474976710656) (hr : RdS w A ss) (hv : ∀ s ∈ vs, s.size ≤ 281474976710656) (hrv : RdS w Av vs) (hg : gone.size ≤ 281474976710656) (hll : ss.length ≤ 9223372036854775807) (hlv : vs.length ≤ 9223372036854775807) :
    Calls Tryz.prog 3 #[.slice A ss.length ca, .slice Av vs.length cv, .string gone] w fun e w' => e = .returned (.bool true) ∧ Below w.heap.size w w' := by
  have CF := Lib.hid (asFixed_any w)
  have HR := Lib.hid hr
  have HRV := Lib.hid hrv
  obtain ⟨B, hB⟩ : ∃ B, w.heap.size = B := ⟨_, rfl⟩
  have HB := Lib.hid hB
  have HSS := Lib.hid hs
  have HVS := Lib.hid hv
  have hst := as_store_float
  obtain ⟨i0, hi, hz0, hz1, hz2⟩ := info_parts info_strS
  have HI := Lib.hid (And.intro hi (And.intro hz0 (And.intro hz1 hz2)))
  obtain ⟨nv, hnv⟩ : ∃ n, vs.length = n := ⟨_, rfl⟩
  have HNV := Lib.hid hnv
  rw [hnv] at hlv ⊢
  by_cases hlen : 300 < ss.length
  · have h1 : (300 : Int) < (ss.length : Int) := by omega
    clear hr hs hB hrv hv hi hz0 hz1 hz2 hnv
    go_enter Tryz.func3, Tryz.ntmps3
    go_wp2_with fail
    refine CF.out.mono ?_
    rintro e W1 ⟨rfl, h1⟩
    go_wp2_with fail
    go_ret
    exact ⟨rfl, h1⟩
  · have h1 : ¬ (300 : Int) < (ss.length : Int) := by omega
    obtain ⟨n, hn⟩ : ∃ n, ss.length = n := ⟨_, rfl⟩
    have HN := Lib.hid hn
    rw [hn] at h1 hlen hll ⊢
    rw [hB] at CF ⊢
    clear hr hs hB hn hrv hv hi hz0 hz1 hz2 hnv
    go_enter Tryz.func3, Tryz.ntmps3
    go_wp2_with fail
    refine CF.out.mono ?_
    rintro e W1 ⟨rfl, hb1⟩
    have HB1 := Lib.hid hb1
    have hB1 : B ≤ W1.heap.size := by have := hb1.size; have := HB.out; omega
    clear hb1 CF
    go_wp2_with fail
    refine (new_any W1).mono ?_
    rintro e W2 ⟨a, m, rfl, hA, hra, hrm, h2⟩
    have HK2 := Lib.hid (show Kps w W2 B a m ⟨fun _ => ⟨#[]⟩, fun _ => 0, fun _ => 0, fun _ => 0, fun _ => ⟨#[]⟩⟩ [] [] (.slice none 0 0) from
      ⟨⟨hA, List.Perm.refl _, List.Pairwise.nil, fun p hp => absurd hp (by simp), fun e he => absurd he (by simp)⟩, World.ownsRow_nil _ _ _ _, fun e he => absurd he (by simp), HB1.out.trans (h2.mono hB1), Nat.le_trans hB1 h2.size⟩)
    have hBa : B ≤ a := by omega
    have hBm : B ≤ m := by omega
    clear hA h2 HB1 hra hrm hB1
    go_wp2_with fail
    go_loopw [8, 28] (fun ov i wr => ∃ (k : Nat) (T : Tab) (els : List Nat) (E : List (Lit × Nat)), k ≤ n ∧ i = .int .i64 k ∧ els.length ≤ k ∧ Kps w wr B a m T els E ov) (fun _ i _ => n - (RowKit.intOf i).toNat)
    case atStart => exact ⟨0, _, [], [], Nat.zero_le _, rfl, Nat.le_refl _, HK2.out⟩
    case round =>
      clear HK2
      obtain ⟨k, T, els, E, hk, rfl, hek, hK⟩ := hrel
      have HK := Lib.hid hK
      by_cases hlt : k < n
      · have hkl : k < ss.length := by rw [HN.out]; exact hlt
        obtain ⟨bk, off, hAe, hc⟩ := HR.out k hkl
        subst hAe
        have hlow := hK.low
        have hcell := (hlow.cell (p := ⟨bk, off + k, none⟩) (by have := World.block_lt_of_cell? w _ hc; rw [← HB.out]; exact this)).trans hc
        have hks := HSS.out _ (List.getElem_mem hkl)
        obtain ⟨key, hkey⟩ : ∃ key, ss[k] = key := ⟨_, rfl⟩
        rw [hkey] at hcell hks
        obtain ⟨v, hvs, hvc⟩ : ∃ v : ByteArray, v.size ≤ 281474976710656 ∧ ((∃ b o, Av = some ⟨b, o, none⟩ ∧ wr.cell? ⟨b, o + k, none⟩ = some (.string v) ∧ (k : Int) < (nv : Int)) ∨ (¬ (k : Int) < (nv : Int) ∧ v = ⟨#[]⟩)) := by
          by_cases q : k < nv
          · have hkv : k < vs.length := by rw [HNV.out]; exact q
            obtain ⟨b, o, hb, hc⟩ := HRV.out k hkv
            exact ⟨vs[k], HVS.out _ (List.getElem_mem hkv), .inl ⟨b, o, hb, (hlow.cell (p := ⟨b, o + k, none⟩) (by have := World.block_lt_of_cell? w _ hc; rw [← HB.out]; exact this)).trans hc, by omega⟩⟩
          · exact ⟨⟨#[]⟩, by decide, .inr ⟨by omega, rfl⟩⟩
        have hBs := hK.size
        rcases hK.st.find key with ⟨el, hel, hke⟩ | hno
        · subst hke
          have HEL := Lib.hid hel
          clear hc hkl hkey hK hlow hel
          rcases hvc with ⟨b, o, rfl, hcv, hkv⟩ | ⟨hkv, rfl⟩
          all_goals
            go_wp2_with fail
            refine (HK.out.st.kind_yes HEL.out).mono ?_
            rintro e w' ⟨rfl, rfl⟩
            go_wp2_with fail
            refine (asText_any _ wr).mono ?_
            rintro e W3 ⟨rfl, h3⟩
            have HK3 := Lib.hid (HK.out.below h3)
            clear h3 HK
            go_wp2_with fail
            refine (HK3.out.set_old HEL.out hvs).mono ?_
            rintro e W4 ⟨rfl, T', hK4, t1, t2, t3, t4⟩
            have HK4 := Lib.hid hK4
            have hget := hK4.st.get HEL.out
            rw [t1, t2, t3, t4] at hget
            have HG := Lib.hid hget
            clear hK4 hget t1 t2 t3 t4 HK3
            go_wp2_with fail
            refine HG.out.mono ?_
            rintro e W5 ⟨rfl, h5⟩
            have HK5 := Lib.hid (fun o => (HK4.out.below h5).below ((Below.refl W5.heap.size W5).alloc (Nat.le_refl _) o))
            clear h5 HK4 HG
            go_wp2_with fail
            go_roundw
            case rel => exact ⟨k + 1, T', els, E, by omega, by go_num, by omega, HK5.out _⟩
            case measure => simp [RowKit.intOf]; omega
        · have HNO := Lib.hid hno
          have hownL := hK.own.1
          have hsz : (Value.string key).oneCell' = true := by simp [Value.oneCell']
          clear hc hkl hkey hK hlow hno
          rcases hvc with ⟨b, o, rfl, hcv, hkv⟩ | ⟨hkv, rfl⟩
          all_goals
            go_wp2_with fail
            refine (HK.out.st.kind_no key (by unfold maxLen; omega) HNO.out).mono ?_
            rintro e w' ⟨rfl, rfl⟩
            go_wp2_with (at_builtin; refine wpList_append_own_at _ rfl _ _ 22 rfl B 9 i0 _ 1 16 Tryz.underlying22 HI.out.1 HI.out.2.1 HI.out.2.2.1 HI.out.2.2.2 rfl (by decide) _ els.length _ rfl (HK.out.own.alloc _) ⟨wr.heap.size, 0, none⟩ 1 1 [.string key] rfl rfl (cell_one_new _ _ _) (by simp [Value.oneCell']) (by unfold maxLen; omega) (by omega) (by simp; omega) ?_)
            intro v' w2 hown2 hgrow _ _
            have hb0 := (Below.refl wr.heap.size wr).alloc (Nat.le_refl _) (.cells #[.string key] 9)
            have hblk := own_block (HK.out.own.alloc (.cells #[.string key] 9))
            have hS2 := (HK.out.st.below hb0).grown hgrow (fun j hj => (hblk j hj).2)
            have hL2 := (HK.out.low.trans (hb0.mono HK.out.size)).grown hgrow (by simp; omega) (fun j hj => (hblk j hj).1)
            have hz2 : B ≤ w2.heap.size := by have := hgrow.size; simp at this; omega
            have hO2 : w2.ownsRow B 9 1 v' (els.length + 1) ((els.map T.key ++ [key]).map Value.string) := by
              rw [List.map_append, List.map_map]
              exact hown2
            have HQ := Lib.hid (And.intro hS2 (And.intro hO2 (And.intro hL2 (And.intro hz2 HK.out.up))))
            clear hb0 hblk hS2 hL2 hz2 hO2 hown2 hgrow HK hsz
            go_wp2_with fail
            refine (asText_any _ w2).mono ?_
            rintro e W3 ⟨rfl, h3⟩
            have CS := Lib.hid (Kps.set_new (HQ.out.1.below h3) (own_below HQ.out.2.1 h3) HQ.out.2.2.2.2 (HQ.out.2.2.1.trans (h3.mono HQ.out.2.2.2.1)) (Nat.le_trans HQ.out.2.2.2.1 h3.size) hBa hBm hks HNO.out (by omega) hvs)
            clear h3 HQ
            go_wp2_with fail
            refine CS.out.mono ?_
            rintro e W4 ⟨rfl, T', el, E', hK4, t1, t2, t3, t4⟩
            have HK4 := Lib.hid hK4
            have hget := hK4.st.get (el := el) (by simp)
            rw [t1, t2, t3, t4] at hget
            have HG := Lib.hid hget
            clear hK4 hget t1 t2 t3 t4 CS
            go_wp2_with fail
            refine HG.out.mono ?_
            rintro e W5 ⟨rfl, h5⟩
            have HK5 := Lib.hid (fun o => (HK4.out.below h5).below ((Below.refl W5.heap.size W5).alloc (Nat.le_refl _) o))
            clear h5 HK4 HG
            go_wp2_with fail
            go_roundw
            case rel => exact ⟨k + 1, T', els ++ [el], E', by omega, by go_num, by simp; omega, HK5.out _⟩
            case measure => simp [RowKit.intOf]; omega
      · obtain rfl : k = n := by omega
        obtain ⟨Ao, co, rfl, hro⟩ := rds_own (List.length_map ..) hK.own
        have HRO := Lib.hid hro
        obtain ⟨N, hN⟩ : ∃ N, els.length = N := ⟨_, rfl⟩
        have HNN := Lib.hid hN
        have hN2 : N ≤ 1000 := by omega
        have CK := Lib.hid (HK.out.st.keys (by omega) ⟨#[]⟩)
        rw [hN] at CK ⊢
        clear hK hro hlt hN
        go_wp2_with fail
        refine CK.out.mono ?_
        rintro e W1 ⟨g, cur, rfl, hg1, hF, hc, hb⟩
        have HK1 := Lib.hid (HK.out.below hb)
        have CT := Lib.hid (texts_same (n := N) (cb := co) (ca := N) (xs := els.map T.key) (by rw [List.length_map]; exact HNN.out) (by omega) (rds_keys hF hc.2) (HRO.out.below hb))
        clear hF hc hb hg1 CK HK
        go_wp2_with fail
        refine CT.out.mono ?_
        rintro e W2 ⟨rfl, h2⟩
        have HK2 := Lib.hid (HK1.out.below h2)
        clear h2 HK1 CT HRO
        rcases HK2.out.st.find gone with ⟨el, hel, hke⟩ | hno
        · subst hke
          have HEL := Lib.hid hel
          obtain ⟨r, hrr⟩ : ∃ r, (rest T (T.key el) els).length = r := ⟨_, rfl⟩
          have hrN : N = r + 1 := by have := HK2.out.st.rest_one hel; have := HNN.out; omega
          have HRR := Lib.hid hrr
          have hd := HK2.out.st.delete (T.key el) hg
          rw [HK2.out.st.has_yes hel] at hd
          have HD := Lib.hid hd
          have hl2 := HK2.out.st.len
          rw [HNN.out, hrN] at hl2
          have HL2 := Lib.hid hl2
          clear hel hd hl2 hrr
          rw [hrN] at hN2 ⊢
          go_wp2_with fail
          refine (HK2.out.st.kind_yes HEL.out).mono ?_
          rintro e w' ⟨rfl, rfl⟩
          go_wp2_with fail
          refine HL2.out.mono ?_
          rintro e w' ⟨rfl, rfl⟩
          go_wp2_with fail
          refine HD.out.mono ?_
          rintro e W3 ⟨rfl, ⟨E3, hS3⟩, hO3⟩
          have HS3 := Lib.hid (show St W3 a m els.length (els.length : Int) T (rest T (T.key el) els) E3 from hS3)
          have HB3 := Lib.hid (HK2.out.low.trans (hO3.below hBa hBm HK2.out.size))
          have hB3 : B ≤ W3.heap.size := Nat.le_trans HK2.out.size hO3.size
          have hno := rest_gone T (T.key el) els
          have HNO := Lib.hid hno
          have hd := HS3.out.delete (T.key el) hg
          rw [HS3.out.has_no hno, show (rest T (T.key el) els).filter (fun e => !(klS (T.key e)).sameKey (klS (T.key el))) = rest T (T.key el) els from rest_no T (T.key el) hno] at hd
          have HD3 := Lib.hid hd
          clear hS3 hO3 hno hd HD HK2 HL2
          go_wp2_with fail
          refine (HS3.out.kind_no (T.key el) (by unfold maxLen; omega) HNO.out).mono ?_
          rintro e w' ⟨rfl, rfl⟩
          go_wp2_with fail
          refine HD3.out.mono ?_
          rintro e W4 ⟨rfl, ⟨E4, hS4⟩, hO4⟩
          have HS4 := Lib.hid hS4
          have HB4 := Lib.hid (HB3.out.trans (hO4.below hBa hBm hB3))
          have hB4 : B ≤ W4.heap.size := Nat.le_trans hB3 hO4.size
          have hl4 := HS4.out.len
          rw [HRR.out] at hl4
          have HL4 := Lib.hid hl4
          clear hS4 hO4 hl4 HD3 HS3 HB3
          go_wp2_with fail
          refine HL4.out.mono ?_
          rintro e w' ⟨rfl, rfl⟩
          have hw1 : IntKind.i64.wrap (((r + 1 : Nat) : Int) - 1) = (r : Int) := by simp [IntKind.wrap, IntKind.bits, IntKind.signed]; omega
          clear HL4
          go_wp2_with fail
          refine (asText_any _ W4).mono ?_
          rintro e W5 ⟨rfl, h5⟩
          have hNE := HNN.out
          have CS := Lib.hid ((HS4.out.below h5).set_new (T.key el) hg (by unfold maxLen; omega) (by omega) (by omega) HNO.out 2 0 ⟨#[]⟩ (by decide))
          have HB5 := Lib.hid (HB4.out.trans (h5.mono hB4))
          have hB5 : B ≤ W5.heap.size := Nat.le_trans hB4 h5.size
          clear h5 HS4 HB4 hNE
          go_wp2_with fail
          refine CS.out.mono ?_
          rintro e W6 ⟨rfl, ⟨el6, E6, hel6, hnew6, hS6⟩, hO6⟩
          obtain ⟨u1, -, -, -⟩ := upd_at T el6 (T.key el) (els.length : Int) 2 0 ⟨#[]⟩
          obtain ⟨T6, hT6⟩ : ∃ T6, T.upd el6 (T.key el) (els.length : Int) 2 0 ⟨#[]⟩ = T6 := ⟨_, rfl⟩
          rw [hT6] at hS6 u1
          have HS6 := Lib.hid hS6
          have HB6 := Lib.hid (HB5.out.trans (hO6.below hBa hBm hB5))
          have hB6 : B ≤ W6.heap.size := Nat.le_trans hB5 hO6.size
          have hl6 : (rest T (T.key el) els ++ [el6]).length = r + 1 := by rw [List.length_append, HRR.out]; rfl
          have hck := HS6.out.keys (by omega) ⟨#[]⟩
          rw [hl6] at hck
          have HCK := Lib.hid hck
          have HL6 := Lib.hid (show (rest T (T.key el) els ++ [el6])[r]? = some el6 by rw [List.getElem?_append_right (by rw [HRR.out]; exact Nat.le_refl _), HRR.out, Nat.sub_self]; rfl)
          have HU := Lib.hid u1
          clear hS6 hO6 hel6 hnew6 hT6 u1 hck CS HB5
          go_wp2_with fail
          refine HCK.out.mono ?_
          rintro e W7 ⟨g7, cur7, rfl, hg7, hF7, hc7, hb7⟩
          have HS7 := Lib.hid (HS6.out.below hb7)
          have HB7 := Lib.hid (HB6.out.trans (hb7.mono hB6))
          have hB7 : B ≤ W7.heap.size := Nat.le_trans hB6 hb7.size
          have q7 := (hF7.cell r).trans (hc7.2 r el6 HL6.out)
          rw [HU.out] at q7
          have q8 : (0 : Int) ≤ (r : Int) := by omega
          have q9 : (r : Int) < ((r + 1 : Nat) : Int) := by omega
          clear hF7 hc7 hb7 HS6 HB6 HCK hg7
          go_wp2_with fail
          refine HS7.out.clear.mono ?_
          rintro e W8 ⟨⟨rv, rfl⟩, hS8, hO8⟩
          have HS8 := Lib.hid hS8
          have HB8 := Lib.hid (HB7.out.trans (hO8.below hBa hBm hB7))
          have hB8 : B ≤ W8.heap.size := Nat.le_trans hB7 hO8.size
          clear hS8 hO8 HS7 HB7 q7
          go_wp2_with fail
          refine HS8.out.len.mono ?_
          rintro e w' ⟨rfl, rfl⟩
          go_wp2_with fail
          refine HS8.out.total_none.mono ?_
          rintro e W9 ⟨rfl, h9⟩
          have HB9 := Lib.hid (HB8.out.trans (h9.mono hB8))
          go_wp2_with fail
          go_ret
          exact ⟨rfl, HB9.out⟩
        · have HNO := Lib.hid hno
          have hd := HK2.out.st.delete gone hg
          rw [HK2.out.st.has_no hno, show els.filter (fun e => !(klS (T.key e)).sameKey (klS gone)) = els from rest_no T gone hno] at hd
          have HD := Lib.hid hd
          have hl2 := HK2.out.st.len
          rw [HNN.out] at hl2
          have HL2 := Lib.hid hl2
          clear hno hd hl2
          go_wp2_with fail
          refine (HK2.out.st.kind_no gone (by unfold maxLen; omega) HNO.out).mono ?_
          rintro e w' ⟨rfl, rfl⟩
          go_wp2_with fail
          refine HL2.out.mono ?_
          rintro e w' ⟨rfl, rfl⟩
          go_wp2_with fail
          refine HD.out.mono ?_
          rintro e W3 ⟨rfl, ⟨E3, hS3⟩, hO3⟩
          have HS3 := Lib.hid hS3
          have HB3 := Lib.hid (HK2.out.low.trans (hO3.below hBa hBm HK2.out.size))
          have hB3 : B ≤ W3.heap.size := Nat.le_trans HK2.out.size hO3.size
          have hd := HS3.out.delete gone hg
          rw [HS3.out.has_no HNO.out, show els.filter (fun e => !(klS (T.key e)).sameKey (klS gone)) = els from rest_no T gone HNO.out] at hd
          have HD3 := Lib.hid hd
          clear hS3 hO3 hd HD HK2 HL2
          go_wp2_with fail
          refine (HS3.out.kind_no gone (by unfold maxLen; omega) HNO.out).mono ?_
          rintro e w' ⟨rfl, rfl⟩
          go_wp2_with fail
          refine HD3.out.mono ?_
          rintro e W4 ⟨rfl, ⟨E4, hS4⟩, hO4⟩
          have HS4 := Lib.hid hS4
          have HB4 := Lib.hid (HB3.out.trans (hO4.below hBa hBm hB3))
          have hB4 : B ≤ W4.heap.size := Nat.le_trans hB3 hO4.size
          have hl4 := HS4.out.len
          rw [HNN.out] at hl4
          have HL4 := Lib.hid hl4
          clear hS4 hO4 hl4 HD3 HS3 HB3
          go_wp2_with fail
          refine HL4.out.mono ?_
          rintro e w' ⟨rfl, rfl⟩
          clear HL4
          go_wp2_with fail
          refine HS4.out.clear.mono ?_
          rintro e W8 ⟨⟨rv, rfl⟩, hS8, hO8⟩
          have HS8 := Lib.hid hS8
          have HB8 := Lib.hid (HB4.out.trans (hO8.below hBa hBm hB4))
          have hB8 : B ≤ W8.heap.size := Nat.le_trans hB4 hO8.size
          clear hS8 hO8 HS4 HB4
          go_wp2_with fail
          refine HS8.out.len.mono ?_
          rintro e w' ⟨rfl, rfl⟩
          go_wp2_with fail
          refine HS8.out.total_none.mono ?_
          rintro e W9 ⟨rfl, h9⟩
          have HB9 := Lib.hid (HB8.out.trans (h9.mono hB8))
          go_wp2_with fail
          go_ret
          exact ⟨rfl, HB9.out⟩
end Go.Proofs.YtnbagigbaceonaaGreatDoor
