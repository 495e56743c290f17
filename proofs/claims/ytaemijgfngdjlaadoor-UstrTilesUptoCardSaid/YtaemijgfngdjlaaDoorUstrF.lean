/- Contracts of layer 1: All, the iterator over a string's characters. -/
import Derived.RangeFuncNested
import Derived.RangeFuncBound
import Derived.RangeFuncCalls
import Derived.RangeFuncLeaves
import Derived.Shelf.Abstract
import Derived.Shelf.RegionOpen
import Derived.OwnWalkIn
import Derived.TacticsInMore
import Derived.LoopNIn
import Derived.LoopIn
import Derived.Test.YtaemijgfngdjlaaDoorUstrD
import Derived.Test.YtaemijgfngdjlaaDoorUstrP
namespace Go.Proofs.YtaemijgfngdjlaaDoor
open Go.RowKit Go.Lib Go.Shelf
attribute [local go_sem] Oper.semAt_some

/-- These blocks lie as they lay. -/
def KeepsAt (bs : List Nat) (W W' : World) : Prop := ∀ c ∈ bs, W'.heap[c]? = W.heap[c]?
theorem KeepsAt.refl (bs : List Nat) (W : World) : KeepsAt bs W W := fun _ _ => rfl
theorem KeepsAt.trans {bs : List Nat} {A B C : World} (h : KeepsAt bs A B) (k : KeepsAt bs B C) : KeepsAt bs A C := fun c hc => (k c hc).trans (h c hc)
theorem KeepsAt.of_below {bs : List Nat} {n : Nat} {W W' : World} (h : Below n W W') (hlt : ∀ c ∈ bs, c < n) : KeepsAt bs W W' := fun c hc => h.block c (hlt c hc)
theorem KeepsAt.of_grown {bs : List Nat} {row : Option Nat} {W W' : World} (h : W.grownBy W' row) (hlt : ∀ c ∈ bs, c < W.heap.size ∧ some c ≠ row) : KeepsAt bs W W' := fun c hc => h.block c (hlt c hc).1 (hlt c hc).2
theorem KeepsAt.putObj {bs : List Nat} (n : Nat) (hlt : ∀ c ∈ bs, c < n) (W : World) (l : Nat) (o' : Obj) (hl : n ≤ l) : KeepsAt bs W (W.putObj l o') :=
  fun c hc => World.putObj_heap_other (by have := hlt c hc; omega)
theorem KeepsAt.cell {bs : List Nat} {W W' : World} (h : KeepsAt bs W W') {c : Nat} (hc : c ∈ bs) (o : Nat) : W'.cell? ⟨c, o, none⟩ = W.cell? ⟨c, o, none⟩ := by
  simp [World.cell?, h c hc]
theorem grown_of_below {W W' : World} (h : Below W.heap.size W W') : W.grownBy W' none :=
  ⟨h.os, h.tape, h.output, h.size, fun k hk _ => h.block k hk⟩
theorem tabs_keeps {g h : Nat} {W W' : World} (hT : Utf8Tabs g h W) (hk : KeepsAt [g, h] W W') : Utf8Tabs g h W' :=
  ⟨fun c hc => (hk.cell (by simp) c).trans (hT.1 c hc), fun i hi => ⟨(hk.cell (by simp) _).trans (hT.2 i hi).1, (hk.cell (by simp) _).trans (hT.2 i hi).2⟩⟩
/-- A cell that is there lies in a block below the heap's size. -/
theorem lt_of_cell {W : World} {c o : Nat} {v : Value} (h : W.cell? ⟨c, o, none⟩ = some v) : c < W.heap.size := by
  by_cases hc : c < W.heap.size
  · exact hc
  · simp [World.cell?, Array.getElem?_eq_none (Nat.le_of_not_lt hc)] at h
theorem tabs_lt {g h : Nat} {W : World} (hT : Utf8Tabs g h W) : g < W.heap.size ∧ h < W.heap.size := ⟨lt_of_cell (hT.1 0 (by decide)), lt_of_cell (hT.2 0 (by decide)).1⟩
theorem tabs_below {g h n : Nat} {W W' : World} (hT : Utf8Tabs g h W) (hb : Below n W W') (hn : W.heap.size ≤ n) : Utf8Tabs g h W' :=
  tabs_keeps hT (KeepsAt.of_below hb (fun c hc => by have := tabs_lt hT; simp at hc; rcases hc with rfl | rfl <;> omega))

/-- What All hands over at the k-th character. -/
abbrev chEnc (s : ByteArray) (b : Bool) (k : Nat) : Array Value := #[.int .i64 (pl s b k), .int .i64 (cod s b (pl s b k))]

set_option maxHeartbeats 1000000 in
theorem all_any (s : ByteArray) (b : Bool) (w : World) :
    Calls Tryd.prog 17 #[.string s, .bool b] w fun e w' => e = .returned (.func (.func 34) #[] #[.pointer (some ⟨w.heap.size, 0, none⟩), .pointer (some ⟨w.heap.size + 1, 0, none⟩)]) ∧
      (w.alloc (.cells #[.string s] 9)).alloc (.cells #[.bool b] 4) = w' := by
  have hmf : ∀ (fn : Fn) (first cap : Array Value) (w : World), (Instr.makeFunc fn first cap).run Tryd.prog w = .ok (.func fn first cap) w := fun _ _ _ _ => rfl
  go_enter Tryd.func17, Tryd.ntmps17
  go_wp2
  go_ret
  exact ⟨rfl, rfl⟩

set_option maxRecDepth 100000 in
set_option maxHeartbeats 1000000 in
/-- THE ITERATOR: FOR EVERY LOOP BODY THAT KEEPS THE TWO CAPTURED VARIABLES AND THE LIBRARY's TABLES. -/
theorem all_stops (n : Nat) (hn : 1 ≤ n) (s : ByteArray) (b : Bool) (B1 B2 : Nat) (w : World) (hs : s.size ≤ 9223372036854775807 - 8)
    (h1 : w.cell? ⟨B1, 0, none⟩ = some (.string s)) (h2 : w.cell? ⟨B2, 0, none⟩ = some (.bool b)) (hT : Utf8Tabs 0 1 w) :
    SeqStopsK Fence.wide n Tryd.prog 34 #[.pointer (some ⟨B1, 0, none⟩), .pointer (some ⟨B2, 0, none⟩)] (chEnc s b) (KeepsAt [0, 1, B1, B2])
      (fun xs => xs = List.range (cnt s b)) (fun pre => ∃ k, k ≤ cnt s b ∧ pre = List.range k) (cnt s b) w := fun l J Jx W hW hJ hJx hY h0 => by
  have hK0 : KeepsAt [0, 1, B1, B2] w W := KeepsAt.of_below hW (fun c hc => by
    have := tabs_lt hT; have := lt_of_cell h1; have := lt_of_cell h2
    simp at hc; rcases hc with rfl | rfl | rfl | rfl <;> omega)
  refine callsIn_of_wp Tryd.func34 rfl trivial ?_ rfl
  simp only [Tryd.ntmps34, List.size_toArray, List.length_cons, List.length_nil, Nat.reduceAdd, Nat.reduceSub, Array.replicate_succ, Array.replicate_zero, List.push_toArray, List.append_toArray, List.nil_append, List.cons_append]
  gi_wp2
  gi_loopw [4] (fun p wr => ∃ k, k ≤ cnt s b ∧ p = .int .i64 (pl s b k) ∧ KeepsAt [0, 1, B1, B2] w wr ∧ J (List.range k) wr)
    (fun p _ => s.size - (RowKit.intOf p).toNat)
  case atStart =>
    exact ⟨0, Nat.zero_le _, rfl, hK0, h0⟩
  case round =>
    obtain ⟨k, hk, rfl, hKw, hJs⟩ := hrel
    have c1 : wr.cell? ⟨B1, 0, none⟩ = some (.string s) := (hKw.cell (by simp) 0).trans h1
    have c2 : wr.cell? ⟨B2, 0, none⟩ = some (.bool b) := (hKw.cell (by simp) 0).trans h2
    have hTr : Utf8Tabs 0 1 wr := tabs_keeps hT (fun c hc => hKw c (by simp at hc ⊢; omega))
    have hple := pl_le s b k
    by_cases hlt : k < cnt s b
    · have hplt := (cnt_spec s b k).2 hlt
      have cN := next_any s (pl s b k : Nat) b wr hTr (by omega)
      rw [nextZ_eq] at cN
      have hw1 := (wid_in s b _ hplt).1
      have hw2 := (wid_in s b _ hplt).2
      obtain ⟨C, hC⟩ : ∃ C, cod s b (pl s b k) = C := ⟨_, rfl⟩
      obtain ⟨S, hS⟩ : ∃ S, wid s b (pl s b k) = S := ⟨_, rfl⟩
      obtain ⟨p, hp⟩ : ∃ p, pl s b k = p := ⟨_, rfl⟩
      have hp1 : pl s b (k + 1) = p + S := by rw [pl_succ, hS, hp]
      have hY' := hY (List.range k) k
      dsimp only [chEnc] at hY'
      rw [hC, hp] at hY'
      rw [hC, hS] at cN
      rw [hS] at hw1 hw2
      rw [hp] at hplt hple hw2 cN
      rw [hp]
      have CN := Lib.hid cN; clear cN
      have HY := Lib.hid hY'; clear hY' hY
      have HC := Lib.hid hC; clear hC
      have HS := Lib.hid hS; clear hS
      have HP := Lib.hid hp; clear hp
      have HP1 := Lib.hid hp1; clear hp1
      have HT := Lib.hid hTr; clear hTr hT
      have HKW := Lib.hid hKw; clear hKw hK0
      gi_wp2_with fail
      refine ⟨trivial, (callsIn_wide.2 CN.out).mono ?_⟩
      rintro e W3 ⟨rfl, hb3⟩
      have c13 : W3.cell? ⟨B1, 0, none⟩ = some (.string s) := (hb3.cell (p := ⟨B1, 0, none⟩) (lt_of_cell c1)).trans c1
      have c23 : W3.cell? ⟨B2, 0, none⟩ = some (.bool b) := (hb3.cell (p := ⟨B2, 0, none⟩) (lt_of_cell c2)).trans c2
      have hJ3 : J (List.range k) W3 := hJ _ _ _ none hJs (grown_of_below hb3) (fun r e => by cases e)
      have hK3 : KeepsAt [0, 1, B1, B2] w W3 := HKW.out.trans (KeepsAt.of_below hb3 (fun c hc => by
        have := tabs_lt HT.out; have := lt_of_cell c1; have := lt_of_cell c2
        simp at hc; rcases hc with rfl | rfl | rfl | rfl <;> omega))
      obtain ⟨fn, tmps, assign, body, hy, hR⟩ := HY.out W3 hJ3 (by simp; omega)
      have HK3 := Lib.hid hK3; clear hK3
      gi_wp2
      refine hR.mono ?_
      rintro e W4 (⟨rfl, hJ4, hk4⟩ | ⟨rfl, hJx4⟩)
      · have hK4 := Lib.hid (HK3.out.trans hk4); clear hk4
        gi_wp2
        go_roundw
        case rel => exact ⟨k + 1, by omega, by rw [HP1.out]; go_num, hK4.out, by rw [List.range_succ]; exact hJ4⟩
        case measure => simp [RowKit.intOf]; omega
      · gi_wp2
        refine bodyPost_ret (results_none rfl _ _ _) rfl ?_
        exact ⟨⟨_, rfl⟩, .inr ⟨List.range (k + 1), ⟨k + 1, by omega, rfl⟩, by rw [List.range_succ]; exact hJx4⟩⟩
    · obtain rfl : k = cnt s b := by omega
      have hpe := pl_cnt s b
      rw [hpe]
      clear hpe hY hple
      gi_wp2
      go_end0
      exact ⟨⟨_, rfl⟩, .inl ⟨_, rfl, hJs⟩⟩
end Go.Proofs.YtaemijgfngdjlaaDoor
