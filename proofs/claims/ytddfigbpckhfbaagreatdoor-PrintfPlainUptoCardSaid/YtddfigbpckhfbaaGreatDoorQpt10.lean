/- Several texts in one (Contracts of layer 1: Next, in the program and in the definition; Plain arithmetic of layer 1: the places at which the characters of a string begin; Contracts of layer 1: All, the iterator over a string's characters; Contracts of layer 1: Len, recase, Lower, Upper; Contracts of layer 1: recase; Contracts of layer 1: Starts, Len, Place, Sub of the definition; Plain: a whole number's pieces by a verb of those; what Number answers; widths; Layer 1: the law UstrAll, walked; Contracts of layer 1: Place; Contracts of layer 1: ahead; Contracts of layer 1: Sub; Contracts of layer 5: Text; the example of layer 5's laws; Contracts of layer 6: a value that came in; what a value counts as; values compared; Contracts of layer 6: values as strings; values compared; Plain: what a format of many parts writes, part by part; two formats, one behind the other; Contracts of layer 4: Trunc at any float). -/
import Derived.Lib.RuneCount
import Derived.RangeFuncNested
import Derived.RangeFuncBound
import Derived.RangeFuncCalls
import Derived.RangeFuncLeaves
import Derived.Shelf.Abstract
import Derived.Shelf.RegionOpen
import Derived.OwnWalkIn
import Derived.TacticsInMore
import Derived.LoopNIn
import Derived.LoopIn
import Derived.Lib.LazyBuf
import Derived.Deep.Upon
import Derived.WalkSmall
import Derived.BigQuiet
import Derived.Deep.QuietTactic
import Derived.WalkSpells
import Derived.Test.YtddfigbpckhfbaaGreatDoorQpt5
import Derived.Test.YtddfigbpckhfbaaGreatDoorQpt7
import Derived.Test.YtddfigbpckhfbaaGreatDoorQpt9
namespace Go.Proofs.YtddfigbpckhfbaaGreatDoor
open Go.RowKit Go.Lib

theorem decodeN_lt (n b0 b1 b2 b3 : Nat) : (decodeN n b0 b1 b2 b3).1 ≤ 1114111 ∧ 1 ≤ (decodeN n b0 b1 b2 b3).2 ∧ (decodeN n b0 b1 b2 b3).2 ≤ 4 := by
  unfold decodeN
  repeat' split
  all_goals (simp only; omega)

set_option maxRecDepth 100000 in
set_option maxHeartbeats 1000000 in
theorem next_any (s : ByteArray) (i : Int) (b : Bool) (w : World) (hT : Utf8Tabs 3 4 w) (_hs : s.size ≤ 9223372036854775807) :
    Calls Tryz.prog 291 #[.string s, .int .i64 i, .bool b] w fun e w' => e = .returned (.tuple #[.int .i64 (nextZ s i b).1, .int .i64 (nextZ s i b).2]) ∧ Below w.heap.size w w' := by
  by_cases h0 : i < 0
  · rw [nextZ_out s i b (.inl h0)]
    clear hT
    go_enter Tryz.func291, Tryz.ntmps291
    go_wp2
    go_ret2
    exact ⟨rfl, Below.refl _ _⟩
  by_cases h1 : (s.size : Int) ≤ i
  · rw [nextZ_out s i b (.inr h1)]
    clear hT
    go_enter Tryz.func291, Tryz.ntmps291
    go_wp2
    go_ret2
    exact ⟨rfl, Below.refl _ _⟩
  obtain ⟨k, rfl⟩ : ∃ k : Nat, i = k := ⟨i.toNat, by omega⟩
  have hk : k < s.size := by omega
  have gk := get!_lt s k hk
  rw [nextZ_in s k b hk]
  cases b
  · have cD := Tryz.utf8_DecodeRuneInString (s.extract k s.size) w hT
    rw [decodeGo_tail s k hk] at cD
    have hd := decodeN_lt (s.size - k) (s.get! k).toNat (s.get! (k + 1)).toNat (s.get! (k + 2)).toNat (s.get! (k + 3)).toNat
    simp only [Bool.false_eq_true, if_false]
    unfold chS chN
    obtain ⟨R, hR⟩ : ∃ R, (decodeN (s.size - k) (s.get! k).toNat (s.get! (k + 1)).toNat (s.get! (k + 2)).toNat (s.get! (k + 3)).toNat).1 = R := ⟨_, rfl⟩
    obtain ⟨K, hK⟩ : ∃ K, (decodeN (s.size - k) (s.get! k).toNat (s.get! (k + 1)).toNat (s.get! (k + 2)).toNat (s.get! (k + 3)).toNat).2 = K := ⟨_, rfl⟩
    have hRK : decodeN (s.size - k) (s.get! k).toNat (s.get! (k + 1)).toNat (s.get! (k + 2)).toNat (s.get! (k + 3)).toNat = (R, K) := by rw [← hR, ← hK]
    rw [hRK] at cD hd ⊢
    simp only at hd
    obtain ⟨hd1, hd2, hd3⟩ := hd
    clear hR hK hRK hT
    have hb := get!_lt256 s k
    rw [← gk] at hb ⊢
    have GK := Lib.hid gk; clear gk
    have CD := Lib.hid cD; clear cD
    by_cases hr : R = 65533
    · by_cases hK1 : K = 1
      · subst hr; subst hK1
        rw [if_pos rfl]
        go_enter Tryz.func291, Tryz.ntmps291
        go_wp2_with (go_at_call 165; refine CD.out.mono ?_; rintro e w' ⟨rfl, hb⟩)
        go_ret2
        exact ⟨by simp, hb⟩
      · rw [if_neg (by simp; omega)]
        subst hr
        have hK1' : ((K : Int) == 1) = false := by simp; omega
        go_enter Tryz.func291, Tryz.ntmps291
        go_wp2_with (go_at_call 165; refine CD.out.mono ?_; rintro e w' ⟨rfl, hb⟩)
        go_ret2
        exact ⟨rfl, hb⟩
    · rw [if_neg (by simp; omega)]
      have hr' : ((R : Int) == 65533) = false := by simp; omega
      go_enter Tryz.func291, Tryz.ntmps291
      go_wp2_with (go_at_call 165; refine CD.out.mono ?_; rintro e w' ⟨rfl, hb⟩)
      go_ret2
      exact ⟨rfl, hb⟩
  · simp only [if_true]
    have hb := get!_lt256 s k
    rw [← gk] at hb ⊢
    have GK := Lib.hid gk; clear gk hT
    go_enter Tryz.func291, Tryz.ntmps291
    go_wp2
    go_ret2
    exact ⟨by simp, Below.refl _ _⟩

end Go.Proofs.YtddfigbpckhfbaaGreatDoor

namespace Go.Proofs.YtddfigbpckhfbaaGreatDoor
open Go.Lib

/-- How many bytes the character at a place has (0 past the end). -/
def wid (s : ByteArray) (b : Bool) (i : Nat) : Nat := (nextZ s (i : Int) b).2
def uCod (s : ByteArray) (b : Bool) (i : Nat) : Nat := (nextZ s (i : Int) b).1
/-- The place of the k-th character (from 0 on), or the length. -/
def pl (s : ByteArray) (b : Bool) : Nat → Nat
  | 0 => 0
  | k + 1 => pl s b k + wid s b (pl s b k)

theorem nextZ_eq (s : ByteArray) (b : Bool) (i : Nat) : nextZ s (i : Int) b = (uCod s b i, wid s b i) := rfl
theorem wid_out (s : ByteArray) (b : Bool) (i : Nat) (h : s.size ≤ i) : wid s b i = 0 := by
  unfold wid nextZ; rw [if_pos (by omega)]
theorem decodeN_wid (n b0 b1 b2 b3 : Nat) (hn : 1 ≤ n) : 1 ≤ (decodeN n b0 b1 b2 b3).2 ∧ (decodeN n b0 b1 b2 b3).2 ≤ n := by
  unfold decodeN
  repeat' split
  all_goals (simp only; omega)
theorem chN_wid (n b0 b1 b2 b3 : Nat) : (chN n b0 b1 b2 b3).2 = (decodeN n b0 b1 b2 b3).2 := by
  unfold chN
  split
  · rename_i h; rw [h]
  · rfl
theorem wid_byte (s : ByteArray) (i : Nat) (h : i < s.size) : wid s true i = 1 := by
  unfold wid nextZ; rw [if_neg (by omega)]; rfl
theorem wid_char (s : ByteArray) (i : Nat) (h : i < s.size) : wid s false i = (decodeN (s.size - i) (s.get! i).toNat (s.get! (i + 1)).toNat (s.get! (i + 2)).toNat (s.get! (i + 3)).toNat).2 := by
  unfold wid nextZ; rw [if_neg (by omega)]; exact chN_wid _ _ _ _ _
theorem wid_in (s : ByteArray) (b : Bool) (i : Nat) (h : i < s.size) : 1 ≤ wid s b i ∧ i + wid s b i ≤ s.size := by
  cases b
  · rw [wid_char s i h]
    have := decodeN_wid (s.size - i) (s.get! i).toNat (s.get! (i + 1)).toNat (s.get! (i + 2)).toNat (s.get! (i + 3)).toNat (by omega)
    omega
  · rw [wid_byte s i h]; omega
theorem pl_le (s : ByteArray) (b : Bool) : ∀ k, pl s b k ≤ s.size
  | 0 => Nat.zero_le _
  | k + 1 => by
    have ih := pl_le s b k
    show pl s b k + wid s b (pl s b k) ≤ s.size
    by_cases h : pl s b k < s.size
    · exact (wid_in s b _ h).2
    · rw [wid_out s b _ (by omega)]; omega
theorem pl_succ (s : ByteArray) (b : Bool) (k : Nat) : pl s b (k + 1) = pl s b k + wid s b (pl s b k) := rfl
theorem pl_end (s : ByteArray) (b : Bool) (k : Nat) (h : pl s b k = s.size) : ∀ j, k ≤ j → pl s b j = s.size := by
  intro j hj
  obtain ⟨d, rfl⟩ := Nat.exists_eq_add_of_le hj
  induction d with
  | zero => exact h
  | succ d ih => rw [← Nat.add_assoc, pl_succ, ih (by omega), wid_out s b _ (by omega)]; rfl
theorem pl_ge (s : ByteArray) (b : Bool) : ∀ k, k ≤ pl s b k ∨ pl s b k = s.size
  | 0 => .inl (Nat.zero_le _)
  | k + 1 => by
    rcases Nat.lt_or_ge (pl s b k) s.size with h | h
    · rcases pl_ge s b k with h1 | h1
      · left; rw [pl_succ]; have := (wid_in s b _ h).1; omega
      · omega
    · right; exact pl_end s b k (by have := pl_le s b k; omega) _ (by omega)
theorem pl_size (s : ByteArray) (b : Bool) : pl s b s.size = s.size := by
  rcases pl_ge s b s.size with h | h
  · have := pl_le s b s.size; omega
  · exact h
/-- How many characters. -/
def cnt (s : ByteArray) (b : Bool) : Nat := (List.range s.size).countP fun k => decide (pl s b k < s.size)
theorem countP_range (p : Nat → Bool) : ∀ N c, c ≤ N → (∀ k, k < N → (p k = true ↔ k < c)) → (List.range N).countP p = c
  | 0, c, hc, _ => by simp; omega
  | N + 1, c, hc, h => by
    rw [List.range_succ, List.countP_append]
    by_cases hN : c ≤ N
    · rw [countP_range p N c hN (fun k hk => h k (by omega))]
      have := (h N (by omega))
      have hp : p N = false := by
        cases hpn : p N
        · rfl
        · exact absurd (this.1 hpn) (by omega)
      simp [hp]
    · obtain rfl : c = N + 1 := by omega
      rw [countP_range p N N (Nat.le_refl _) (fun k hk => by rw [h k (by omega)]; omega)]
      have hp := (h N (by omega)).2 (by omega)
      simp [hp]
theorem exists_cnt (s : ByteArray) (b : Bool) : ∃ c, c ≤ s.size ∧ ∀ k, pl s b k < s.size ↔ k < c := by
  have : ∀ N, (∀ k, pl s b k < s.size → k < N) → ∃ c, c ≤ N ∧ ∀ k, pl s b k < s.size ↔ k < c := by
    intro N
    induction N with
    | zero => intro h; exact ⟨0, Nat.le_refl _, fun k => ⟨h k, fun hk => by omega⟩⟩
    | succ N ih =>
      intro h
      by_cases hN : pl s b N < s.size
      · refine ⟨N + 1, Nat.le_refl _, fun k => ⟨h k, fun hk => ?_⟩⟩
        by_cases hlt : pl s b k < s.size
        · exact hlt
        · exact absurd (pl_end s b k (by have := pl_le s b k; omega) N (by omega)) (by omega)
      · obtain ⟨c, hc, hall⟩ := ih (fun k hk => by
          have := h k hk
          by_cases e : k = N
          · subst e; exact absurd hk hN
          · omega)
        exact ⟨c, by omega, hall⟩
  refine this s.size (fun k hk => ?_)
  by_cases h : k < s.size
  · exact h
  · exact absurd (pl_end s b s.size (pl_size s b) k (by omega)) (by omega)
theorem cnt_spec (s : ByteArray) (b : Bool) (k : Nat) : pl s b k < s.size ↔ k < cnt s b := by
  obtain ⟨c, hc, hall⟩ := exists_cnt s b
  have : cnt s b = c := countP_range _ _ _ hc (fun k _ => by rw [decide_eq_true_eq]; exact hall k)
  rw [this]; exact hall k
theorem cnt_le (s : ByteArray) (b : Bool) : cnt s b ≤ s.size := by
  unfold cnt
  have := List.countP_le_length (p := fun k => decide (pl s b k < s.size)) (l := List.range s.size)
  simpa using this
theorem pl_cnt (s : ByteArray) (b : Bool) : pl s b (cnt s b) = s.size := by
  have h := (not_congr (cnt_spec s b (cnt s b))).2 (by omega)
  have := pl_le s b (cnt s b)
  omega
theorem cnt_unique (s : ByteArray) (b : Bool) (k : Nat) (h : pl s b k = s.size) (hl : ∀ j, j < k → pl s b j < s.size) : cnt s b = k := by
  have h1 := (not_congr (cnt_spec s b k)).1 (by omega)
  by_cases hk : k = 0
  · omega
  · have h2 := (cnt_spec s b (k - 1)).1 (hl (k - 1) (by omega)); omega
theorem pl_mono (s : ByteArray) (b : Bool) (j k : Nat) (h : j ≤ k) : pl s b j ≤ pl s b k := by
  obtain ⟨d, rfl⟩ := Nat.exists_eq_add_of_le h
  induction d with
  | zero => exact Nat.le_refl _
  | succ d ih => rw [← Nat.add_assoc, pl_succ]; have := ih (by omega); omega
theorem pl_byte (s : ByteArray) : ∀ k, k ≤ s.size → pl s true k = k
  | 0, _ => rfl
  | k + 1, h => by rw [pl_succ, pl_byte s k (by omega), wid_byte s k (by omega)]
theorem cnt_byte (s : ByteArray) : cnt s true = s.size :=
  cnt_unique s true s.size (pl_byte s _ (Nat.le_refl _)) (fun j hj => by rw [pl_byte s j (by omega)]; exact hj)
/-- What the library counts. -/
theorem runeCountFrom_pl (s : ByteArray) : ∀ f k, s.size ≤ pl s false k + f → runeCountFrom s f (pl s false k) = cnt s false - k
  | 0, k, h => by
    have := (not_congr (cnt_spec s false k)).1 (by omega)
    show 0 = _
    omega
  | f + 1, k, h => by
    unfold runeCountFrom
    by_cases hk : pl s false k < s.size
    · rw [if_pos hk]
      have e : pl s false k + (Utf8.decode s (pl s false k)).2 = pl s false (k + 1) := by
        rw [pl_succ, wid_char s _ hk, decode_at]
      have h1 := (wid_in s false _ hk).1
      rw [e, runeCountFrom_pl s f (k + 1) (by rw [pl_succ]; omega)]
      have := (cnt_spec s false k).1 hk
      omega
    · rw [if_neg hk]
      have := (not_congr (cnt_spec s false k)).1 hk
      omega
theorem runeCount_cnt (s : ByteArray) : runeCount s = cnt s false :=
  runeCountFrom_pl s s.size 0 (by omega)
end Go.Proofs.YtddfigbpckhfbaaGreatDoor

namespace Go.Proofs.YtddfigbpckhfbaaGreatDoor
open Go.RowKit Go.Lib Go.Shelf
attribute [local go_sem] Oper.semAt_some

/-- These blocks lie as they lay. -/
def KeepsAt (bs : List Nat) (W W' : World) : Prop := ∀ c ∈ bs, W'.heap[c]? = W.heap[c]?
theorem KeepsAt.refl (bs : List Nat) (W : World) : KeepsAt bs W W := fun _ _ => rfl
theorem KeepsAt.trans {bs : List Nat} {A B C : World} (h : KeepsAt bs A B) (k : KeepsAt bs B C) : KeepsAt bs A C := fun c hc => (k c hc).trans (h c hc)
theorem KeepsAt.of_below {bs : List Nat} {n : Nat} {W W' : World} (h : Below n W W') (hlt : ∀ c ∈ bs, c < n) : KeepsAt bs W W' := fun c hc => h.block c (hlt c hc)
theorem KeepsAt.of_grown {bs : List Nat} {row : Option Nat} {W W' : World} (h : W.grownBy W' row) (hlt : ∀ c ∈ bs, c < W.heap.size ∧ some c ≠ row) : KeepsAt bs W W' := fun c hc => h.block c (hlt c hc).1 (hlt c hc).2
theorem KeepsAt.putObj {bs : List Nat} (n : Nat) (hlt : ∀ c ∈ bs, c < n) (W : World) (l : Nat) (o' : Obj) (hl : n ≤ l) : KeepsAt bs W (W.putObj l o') :=
  fun c hc => World.putObj_heap_other (by have := hlt c hc; omega)
theorem KeepsAt.cell {bs : List Nat} {W W' : World} (h : KeepsAt bs W W') {c : Nat} (hc : c ∈ bs) (o : Nat) : W'.cell? ⟨c, o, none⟩ = W.cell? ⟨c, o, none⟩ := by
  simp [World.cell?, h c hc]
theorem grown_of_below {W W' : World} (h : Below W.heap.size W W') : W.grownBy W' none :=
  ⟨h.os, h.tape, h.output, h.size, fun k hk _ => h.block k hk⟩
theorem tabs_keeps {g h : Nat} {W W' : World} (hT : Utf8Tabs g h W) (hk : KeepsAt [g, h] W W') : Utf8Tabs g h W' :=
  ⟨fun c hc => (hk.cell (by simp) c).trans (hT.1 c hc), fun i hi => ⟨(hk.cell (by simp) _).trans (hT.2 i hi).1, (hk.cell (by simp) _).trans (hT.2 i hi).2⟩⟩
/-- A cell that is there lies in a block below the heap's size. -/
theorem lt_of_cell {W : World} {c o : Nat} {v : Value} (h : W.cell? ⟨c, o, none⟩ = some v) : c < W.heap.size := by
  by_cases hc : c < W.heap.size
  · exact hc
  · simp [World.cell?, Array.getElem?_eq_none (Nat.le_of_not_lt hc)] at h
theorem tabs_lt {g h : Nat} {W : World} (hT : Utf8Tabs g h W) : g < W.heap.size ∧ h < W.heap.size := ⟨lt_of_cell (hT.1 0 (by decide)), lt_of_cell (hT.2 0 (by decide)).1⟩
theorem tabs_below {g h n : Nat} {W W' : World} (hT : Utf8Tabs g h W) (hb : Below n W W') (hn : W.heap.size ≤ n) : Utf8Tabs g h W' :=
  tabs_keeps hT (KeepsAt.of_below hb (fun c hc => by have := tabs_lt hT; simp at hc; rcases hc with rfl | rfl <;> omega))

/-- What All hands over at the k-th character. -/
abbrev chEnc (s : ByteArray) (b : Bool) (k : Nat) : Array Value := #[.int .i64 (pl s b k), .int .i64 (uCod s b (pl s b k))]

set_option maxHeartbeats 1000000 in
theorem all_any (s : ByteArray) (b : Bool) (w : World) :
    Calls Tryz.prog 280 #[.string s, .bool b] w fun e w' => e = .returned (.func (.func 290) #[] #[.pointer (some ⟨w.heap.size, 0, none⟩), .pointer (some ⟨w.heap.size + 1, 0, none⟩)]) ∧
      (w.alloc (.cells #[.string s] 9)).alloc (.cells #[.bool b] 4) = w' := by
  have hmf : ∀ (fn : Fn) (first cap : Array Value) (w : World), (Instr.makeFunc fn first cap).run Tryz.prog w = .ok (.func fn first cap) w := fun _ _ _ _ => rfl
  go_enter Tryz.func280, Tryz.ntmps280
  go_wp2
  go_ret
  exact ⟨rfl, rfl⟩

set_option maxRecDepth 100000 in
set_option maxHeartbeats 1000000 in
/-- THE ITERATOR: FOR EVERY LOOP BODY THAT KEEPS THE TWO CAPTURED VARIABLES AND THE LIBRARY's TABLES. -/
theorem all_stops (n : Nat) (hn : 1 ≤ n) (s : ByteArray) (b : Bool) (B1 B2 : Nat) (w : World) (hs : s.size ≤ 9223372036854775807 - 8)
    (h1 : w.cell? ⟨B1, 0, none⟩ = some (.string s)) (h2 : w.cell? ⟨B2, 0, none⟩ = some (.bool b)) (hT : Utf8Tabs 3 4 w) :
    SeqStopsK Fence.wide n Tryz.prog 290 #[.pointer (some ⟨B1, 0, none⟩), .pointer (some ⟨B2, 0, none⟩)] (chEnc s b) (KeepsAt [3, 4, B1, B2])
      (fun xs => xs = List.range (cnt s b)) (fun pre => ∃ k, k ≤ cnt s b ∧ pre = List.range k) (cnt s b) w := fun l J Jx W hW hJ hJx hY h0 => by
  have hK0 : KeepsAt [3, 4, B1, B2] w W := KeepsAt.of_below hW (fun c hc => by
    have := tabs_lt hT; have := lt_of_cell h1; have := lt_of_cell h2
    simp at hc; rcases hc with rfl | rfl | rfl | rfl <;> omega)
  refine callsIn_of_wp Tryz.func290 rfl trivial ?_ rfl
  simp only [Tryz.ntmps290, List.size_toArray, List.length_cons, List.length_nil, Nat.reduceAdd, Nat.reduceSub, Array.replicate_succ, Array.replicate_zero, List.push_toArray, List.append_toArray, List.nil_append, List.cons_append]
  gi_wp2
  gi_loopw [4] (fun p wr => ∃ k, k ≤ cnt s b ∧ p = .int .i64 (pl s b k) ∧ KeepsAt [3, 4, B1, B2] w wr ∧ J (List.range k) wr)
    (fun p _ => s.size - (RowKit.intOf p).toNat)
  case atStart =>
    exact ⟨0, Nat.zero_le _, rfl, hK0, h0⟩
  case round =>
    obtain ⟨k, hk, rfl, hKw, hJs⟩ := hrel
    have c1 : wr.cell? ⟨B1, 0, none⟩ = some (.string s) := (hKw.cell (by simp) 0).trans h1
    have c2 : wr.cell? ⟨B2, 0, none⟩ = some (.bool b) := (hKw.cell (by simp) 0).trans h2
    have hTr : Utf8Tabs 3 4 wr := tabs_keeps hT (fun c hc => hKw c (by simp at hc ⊢; omega))
    have hple := pl_le s b k
    by_cases hlt : k < cnt s b
    · have hplt := (cnt_spec s b k).2 hlt
      have cN := next_any s (pl s b k : Nat) b wr hTr (by omega)
      rw [nextZ_eq] at cN
      have hw1 := (wid_in s b _ hplt).1
      have hw2 := (wid_in s b _ hplt).2
      obtain ⟨C, hC⟩ : ∃ C, uCod s b (pl s b k) = C := ⟨_, rfl⟩
      obtain ⟨S, hS⟩ : ∃ S, wid s b (pl s b k) = S := ⟨_, rfl⟩
      obtain ⟨p, hp⟩ : ∃ p, pl s b k = p := ⟨_, rfl⟩
      have hp1 : pl s b (k + 1) = p + S := by rw [pl_succ, hS, hp]
      have hY' := hY (List.range k) k
      dsimp only [chEnc] at hY'
      rw [hC, hp] at hY'
      rw [hC, hS] at cN
      rw [hS] at hw1 hw2
      rw [hp] at hplt hple hw2 cN
      rw [hp]
      have CN := Lib.hid cN; clear cN
      have HY := Lib.hid hY'; clear hY' hY
      have HC := Lib.hid hC; clear hC
      have HS := Lib.hid hS; clear hS
      have HP := Lib.hid hp; clear hp
      have HP1 := Lib.hid hp1; clear hp1
      have HT := Lib.hid hTr; clear hTr hT
      have HKW := Lib.hid hKw; clear hKw hK0
      gi_wp2_with fail
      refine ⟨trivial, (callsIn_wide.2 CN.out).mono ?_⟩
      rintro e W3 ⟨rfl, hb3⟩
      have c13 : W3.cell? ⟨B1, 0, none⟩ = some (.string s) := (hb3.cell (p := ⟨B1, 0, none⟩) (lt_of_cell c1)).trans c1
      have c23 : W3.cell? ⟨B2, 0, none⟩ = some (.bool b) := (hb3.cell (p := ⟨B2, 0, none⟩) (lt_of_cell c2)).trans c2
      have hJ3 : J (List.range k) W3 := hJ _ _ _ none hJs (grown_of_below hb3) (fun r e => by cases e)
      have hK3 : KeepsAt [3, 4, B1, B2] w W3 := HKW.out.trans (KeepsAt.of_below hb3 (fun c hc => by
        have := tabs_lt HT.out; have := lt_of_cell c1; have := lt_of_cell c2
        simp at hc; rcases hc with rfl | rfl | rfl | rfl <;> omega))
      obtain ⟨fn, tmps, assign, body, hy, hR⟩ := HY.out W3 hJ3 (by simp; omega)
      have HK3 := Lib.hid hK3; clear hK3
      gi_wp2
      refine hR.mono ?_
      rintro e W4 (⟨rfl, hJ4, hk4⟩ | ⟨rfl, hJx4⟩)
      · have hK4 := Lib.hid (HK3.out.trans hk4); clear hk4
        gi_wp2
        go_roundw
        case rel => exact ⟨k + 1, by omega, by rw [HP1.out]; go_num, hK4.out, by rw [List.range_succ]; exact hJ4⟩
        case measure => simp [RowKit.intOf]; omega
      · gi_wp2
        refine bodyPost_ret (results_none rfl _ _ _) rfl ?_
        exact ⟨⟨_, rfl⟩, .inr ⟨List.range (k + 1), ⟨k + 1, by omega, rfl⟩, by rw [List.range_succ]; exact hJx4⟩⟩
    · obtain rfl : k = cnt s b := by omega
      have hpe := pl_cnt s b
      rw [hpe]
      clear hpe hY hple
      gi_wp2
      go_end0
      exact ⟨⟨_, rfl⟩, .inl ⟨_, rfl, hJs⟩⟩
end Go.Proofs.YtddfigbpckhfbaaGreatDoor

namespace Go.Proofs.YtddfigbpckhfbaaGreatDoor
open Go.RowKit Go.Lib Go.Shelf
attribute [local go_sem] Oper.semAt_some

set_option maxHeartbeats 400000 in
theorem len_any (s : ByteArray) (b : Bool) (w : World) (hs : s.size ≤ 9223372036854775807 - 8) :
    Calls Tryz.prog 193 #[.string s, .bool b] w fun e w' => e = .returned (.int .i64 (cnt s b)) ∧ Below w.heap.size w w' := by
  cases b
  · have cR := Tryz.utf8_RuneCountInString s w (by omega)
    rw [runeCount_cnt] at cR
    have CR := Lib.hid cR; clear cR
    go_enter Tryz.func193, Tryz.ntmps193
    go_wp2_with (go_at_call 231; refine CR.out.mono ?_; rintro e w' ⟨rfl, pos, rfl⟩)
    go_ret
    exact ⟨rfl, (Below.refl _ _).alloc (Nat.le_refl _) _⟩
  · rw [cnt_byte]
    go_enter Tryz.func193, Tryz.ntmps193
    go_wp2
    go_ret
    exact ⟨rfl, Below.refl _ _⟩

/-- What stands for the k-th character when its code is changed by f. -/
def piece (s : ByteArray) (b : Bool) (f : Int → Int) (k : Nat) : List UInt8 :=
  if f (uCod s b (pl s b k)) = uCod s b (pl s b k) then (s.data.toList.drop (pl s b k)).take (wid s b (pl s b k)) else (textB (f (uCod s b (pl s b k)))).data.toList
end Go.Proofs.YtddfigbpckhfbaaGreatDoor

namespace Go.Proofs.YtddfigbpckhfbaaGreatDoor
open Go.RowKit Go.Lib Go.Shelf
attribute [local go_sem] Oper.semAt_some

/-- Six new blocks. -/
theorem push6 (h : Array Obj) (a b c d e f : Obj) (H : Array Obj) (hH : H = (((((h.push a).push b).push c).push d).push e).push f) :
    H.size = h.size + 6 ∧ H[h.size]? = some a ∧ H[h.size + 1]? = some b ∧ H[h.size + 1 + 1]? = some c ∧ H[h.size + 1 + 1 + 1]? = some d ∧ H[h.size + 4]? = some e ∧ H[h.size + 4 + 1]? = some f := by
  subst hH
  simp only [Array.getElem?_push, Array.size_push]
  refine ⟨trivial, ?_, ?_, ?_, ?_, ?_, ?_⟩
  all_goals
    repeat' split
  all_goals first | rfl | (exfalso; omega) | simp_all

end Go.Proofs.YtddfigbpckhfbaaGreatDoor

namespace Go.Proofs.YtddfigbpckhfbaaGreatDoor
open Go.RowKit Go.Lib

/-- The place of a number: and is there one? -/
def placeZ (s : ByteArray) (b : Bool) (n : Int) : Int × Bool := if 1 ≤ n ∧ n ≤ cnt s b + 1 then ((pl s b (n - 1).toNat : Nat), true) else (0, false)
/-- The part between two numbers. -/
def subB (s : ByteArray) (b : Bool) (i j : Int) : ByteArray :=
  if min j (cnt s b + 1) ≤ max i 1 then ⟨#[]⟩ else s.extract (pl s b (max i 1 - 1).toNat) (pl s b (min j (cnt s b + 1) - 1).toNat)
end Go.Proofs.YtddfigbpckhfbaaGreatDoor

namespace Go.Proofs.YtddfigbpckhfbaaGreatDoor
open Go.RowKit Go.Lib

def whD0 (r c : Nat) : List UInt8 := if c = 111 then ibT (manF r) (expF r) 3 else if c = 120 ∨ c = 88 then ibT (manF r) (expF r) 4 else fixT (decs (rnd (amN r * 10 ^ 0) (amD r))) 0
def whB (r c : Nat) (a : Bool) : List UInt8 := if (c = 120 ∨ c = 88) ∧ a = true ∧ r ≠ 0 then [48, 120] else []
def whD1 (r : Nat) (a : Bool) (c : Nat) : List UInt8 := if c = 111 ∧ a = true ∧ r ≠ 0 then 48 :: whD0 r c else whD0 r c
def whD2 (r : Nat) (pr : Int) (a : Bool) (c : Nat) : List UInt8 := if ¬ (c = 111 ∧ a = true) ∧ r = 0 ∧ pr = 0 then [] else whD1 r a c
def whD (r : Nat) (pr : Int) (a : Bool) (c : Nat) : List UInt8 := List.replicate (pr - ((whD2 r pr a c).length : Int)).toNat 48 ++ whD2 r pr a c
/-- Is what stands ahead of the point below nought? -/
def lowB (x : Nat) : Bool := sbB x && decide (truncR (mag x) ≠ 0)
def wholeL (m p b a z : Bool) (wd pr : Int) (c x : Nat) : List UInt8 := laidL (signL p b c (lowB x)) (capL c (whB (truncR (mag x)) c a)) (capL c (whD (truncR (mag x)) pr a c)) wd m (z && decide (pr < 0))
/-- What Number answers. -/
noncomputable def numT (m p b a z : Bool) (wd pr : Int) (c x : Nat) : List UInt8 :=
  if chkB wd pr c = true ∧ vNum.contains c.toUInt8 = true then
    match oddL x with
    | some n => fillL n (wd - (n.length : Int)) m
    | none => if vWhole.contains c.toUInt8 = true then wholeL m p b a z wd pr c x else pointT m p b a z wd pr c x
  else []
def numE (wd pr : Int) (c : Nat) : Int := if chkB wd pr c = true ∧ vNum.contains c.toUInt8 = true then 0 else 50
theorem truncR_fin {r : Nat} (h : r < 9218868437227405312) : truncR r < 9218868437227405312 := truncR_lt h
theorem sgn_add_mag {x r : Nat} (hr : r < 9223372036854775808) : mag (sgn x + r) = r := by unfold sgn mag; omega
/-- x < 0 of what Trunc answers. -/
theorem low_is {x : Nat} (hb : x < 18446744073709551616) (h : mag x < 9218868437227405312) : (FloatKind.f64.format.order (sgn x + truncR (mag x)) 0 == some .lt) = lowB x := by
  have ht := truncR_fin h
  have hm : mag (sgn x + truncR (mag x)) = truncR (mag x) := sgn_add_mag (by omega)
  have h0 : mag 0 = 0 := by decide
  rw [show FloatKind.f64.format.order (sgn x + truncR (mag x)) 0 = _ from order_key (by omega) (by omega)]
  have k0 : keyZ 0 = 0 := by decide
  rw [k0]
  unfold lowB keyZ
  rw [hm]
  have hsb : ((sgn x + truncR (mag x)) / 9223372036854775808 % 2 == 1) = sbB x := by
    unfold sgn sbB
    by_cases hx : 9223372036854775808 ≤ x
    · rw [decide_eq_true hx, beq_iff_eq]; omega
    · rw [decide_eq_false hx, beq_eq_false_iff_ne]; omega
  rw [hsb]
  generalize truncR (mag x) = r
  cases sbB x
  · rw [if_neg (by simp), Bool.false_and]
    rcases Int.lt_trichotomy (r : Int) 0 with q | q | q
    · omega
    · rw [Int.compare_eq_eq.2 q]; rfl
    · rw [Int.compare_eq_gt.2 q]; rfl
  · rw [if_pos rfl, Bool.true_and]
    rcases Int.lt_trichotomy (-(r : Int)) 0 with q | q | q
    · rw [Int.compare_eq_lt.2 q, decide_eq_true (by omega)]; rfl
    · rw [Int.compare_eq_eq.2 q, decide_eq_false (by omega)]; rfl
    · omega
/-- x == 0, x != 0 of a finite number. -/
theorem zero_is {x : Nat} (h : mag x < 9218868437227405312) : (FloatKind.f64.format.order x 0 == some .eq) = decide (mag x = 0) := by
  rw [show FloatKind.f64.format.order x 0 = _ from order_key (by omega) (by decide)]
  have k0 : keyZ 0 = 0 := by decide
  rw [k0]
  unfold keyZ
  generalize (x / 9223372036854775808 % 2 == 1) = s
  generalize mag x = r
  cases s
  · rw [if_neg (by simp)]
    rcases Int.lt_trichotomy (r : Int) 0 with q | q | q
    · omega
    · rw [Int.compare_eq_eq.2 q, decide_eq_true (by omega)]; rfl
    · rw [Int.compare_eq_gt.2 q, decide_eq_false (by omega)]; rfl
  · rw [if_pos rfl]
    rcases Int.lt_trichotomy (-(r : Int)) 0 with q | q | q
    · rw [Int.compare_eq_lt.2 q, decide_eq_false (by omega)]; rfl
    · rw [Int.compare_eq_eq.2 q, decide_eq_true (by omega)]; rfl
    · omega
theorem nzero_is {x : Nat} (h : mag x < 9218868437227405312) : (FloatKind.f64.format.order x 0 != some .eq) = decide (mag x ≠ 0) := by
  rw [bne, zero_is h]
  by_cases q : mag x = 0 <;> simp [q]
theorem whD0_asc {r : Nat} (c : Nat) : AscL (whD0 r c) := by
  unfold whD0
  split
  · exact asc_ibT _ _ _ (by omega)
  · split
    · exact asc_ibT _ _ _ (by omega)
    · have := asc_fixP r 0 false
      unfold fixP at this
      rw [if_neg (by simp), List.append_nil] at this
      exact this
theorem expF_le {r : Nat} (h : r < 9218868437227405312) : expF r ≤ 971 := by unfold expF; split <;> omega
theorem whD0_len {r : Nat} (h : r < 9218868437227405312) (c : Nat) : (whD0 r c).length ≤ 3000 := by
  unfold whD0
  split
  · rw [ibT_len]; have := (ibN_bd (z := 3) (manF_lt (r := r)) (expF_le h) (Or.inl rfl)).2; omega
  · split
    · rw [ibT_len]; have := (ibN_bd (z := 4) (manF_lt (r := r)) (expF_le h) (Or.inr rfl)).2; omega
    · have := fixP_len (full := false) h (show 0 ≤ 200 by omega)
      unfold fixP at this
      rw [if_neg (by simp), List.append_nil] at this
      exact this
theorem whD1_len {r : Nat} (h : r < 9218868437227405312) (a : Bool) (c : Nat) : (whD1 r a c).length ≤ 3001 := by
  have := whD0_len h c
  unfold whD1
  split
  · rw [List.length_cons]; omega
  · omega
theorem whD1_asc {r : Nat} (a : Bool) (c : Nat) : AscL (whD1 r a c) := by
  unfold whD1
  split
  · exact asc_cons (by decide) (whD0_asc c)
  · exact whD0_asc c
theorem whD2_len {r : Nat} (h : r < 9218868437227405312) (pr : Int) (a : Bool) (c : Nat) : (whD2 r pr a c).length ≤ 3001 := by
  unfold whD2
  split
  · simp
  · exact whD1_len h a c
theorem whD2_asc {r : Nat} (pr : Int) (a : Bool) (c : Nat) : AscL (whD2 r pr a c) := by
  unfold whD2
  split
  · exact asc_nil
  · exact whD1_asc a c
theorem asc_rep (k : Nat) : AscL (List.replicate k 48) := fun c hc => by rw [(List.mem_replicate.1 hc).2]; decide
theorem whD_asc {r : Nat} (pr : Int) (a : Bool) (c : Nat) : AscL (whD r pr a c) := asc_app (asc_rep _) (whD2_asc pr a c)
theorem whD_len {r : Nat} (h : r < 9218868437227405312) {pr : Int} (h1 : pr ≤ 190) (a : Bool) (c : Nat) : (whD r pr a c).length ≤ 4000 := by
  have := whD2_len h pr a c
  unfold whD
  rw [List.length_append, List.length_replicate]
  omega
theorem whB_asc (r c : Nat) (a : Bool) : AscL (whB r c a) := by
  unfold whB
  split
  · exact asc_cons (by decide) (asc_cons (by decide) asc_nil)
  · exact asc_nil
theorem whB_len (r c : Nat) (a : Bool) : (whB r c a).length ≤ 2 := by unfold whB; split <;> simp
end Go.Proofs.YtddfigbpckhfbaaGreatDoor

namespace Go.Proofs.YtddfigbpckhfbaaGreatDoor
open Go.RowKit Go.Lib Go.Shelf
attribute [local go_sem] Oper.semAt_some

theorem Boxed.below {W W' : World} {B n : Nat} {t : TypeId} {v : Value} (h : Boxed W B t v) (hb : Below n W W') (hn : B < n) : Boxed W' B t v := (hb.block B hn).trans h

end Go.Proofs.YtddfigbpckhfbaaGreatDoor

namespace Go.Proofs.YtddfigbpckhfbaaGreatDoor
open Go.RowKit Go.Lib Go.Shelf
attribute [local go_sem] Oper.semAt_some

set_option maxRecDepth 100000 in
set_option maxHeartbeats 2000000 in
theorem place_in (s : ByteArray) (n : Int) (b : Bool) (w : World) (hs : s.size ≤ 1048576) (hT : Utf8Tabs 3 4 w) :
    CallsIn Fence.wide 10 Tryz.prog 258 #[.string s, .int .i64 n, .bool b] w fun e w' => e = .returned (.tuple #[.int .i64 (placeZ s b n).1, .bool (placeZ s b n).2]) ∧ Below w.heap.size w w' := by
  have hcl := cnt_le s b
  refine callsIn_of_wp_marks Tryz.func258 rfl trivial ?_ rfl
  simp only [Tryz.ntmps258, List.size_toArray, List.length_cons, List.length_nil, Nat.reduceAdd, Nat.reduceSub, Array.replicate_succ, Array.replicate_zero, List.push_toArray, List.append_toArray, List.nil_append, List.cons_append]
  by_cases h1 : n < 1
  · rw [placeZ, if_neg (by omega)]
    clear hT
    gi_wp2
    exact ⟨.tuple #[.int .i64 0, .bool false], by simp [results, Tryz.results258, go_sem], rfl, ((((Below.refl w.heap.size w).alloc (Nat.le_refl _) _).alloc (by simp) _).alloc (by simp; omega) _)⟩
  by_cases h2 : (s.size : Int) + 1 < n
  · rw [placeZ, if_neg (by omega)]
    clear hT
    gi_wp2
    exact ⟨.tuple #[.int .i64 0, .bool false], by simp [results, Tryz.results258, go_sem], rfl, ((((Below.refl w.heap.size w).alloc (Nat.le_refl _) _).alloc (by simp) _).alloc (by simp; omega) _)⟩
  cases b
  · gi_wp2_with fail
    refine ⟨trivial, (callsIn_wide.2 (all_any _ _ _)).mono ?_⟩
    rintro e W0 ⟨rfl, hW⟩
    simp only [World.size_alloc]
    obtain ⟨hsz, x4, x6, x7, x8, xa, xb⟩ := push6 w.heap (.cells #[.int .i64 n] 3) (.cells #[.int .i64 0] 3) (.cells #[.bool false] 4) (.cells #[.int .i64 1] 3) (.cells #[.string s] 9) (.cells #[.bool false] 4) W0.heap (by rw [← hW]; rfl)
    have hb0 : Below w.heap.size w W0 := by
      rw [← hW]
      exact ((((((Below.refl _ _).alloc (Nat.le_refl _) _).alloc (by simp) _).alloc (by simp; omega) _).alloc (by simp; omega) _).alloc (by simp; omega) _).alloc (by simp; omega) _
    have hTW : Utf8Tabs 3 4 W0 := tabs_below hT hb0 (Nat.le_refl _)
    clear hW
    gi_wp2
    refine wpIn_rangeFunc_ownF rfl (by omega) (gf := 290) (lb := #[.pointer (some ⟨w.heap.size + 4, 0, none⟩), .pointer (some ⟨w.heap.size + 4 + 1, 0, none⟩)]) rfl trivial (enters_of Tryz.func290 (by kernel_rfl) rfl)
      (all_stops 9 (by omega) s false (w.heap.size + 4) (w.heap.size + 4 + 1) W0 (by omega) (Boxed.cell xa) (Boxed.cell xb) hTW) KeepsAt.trans
      (fun W l o o' hl _ _ _ => KeepsAt.putObj W0.heap.size (fun c hc => by have := tabs_lt hTW; simp at hc; omega) W l o' hl) (Below.refl _ _) (fun _ => rfl)
      (fun pre W => (Boxed W w.heap.size 3 (.int .i64 n) ∧ Boxed W (w.heap.size + 1) 3 (.int .i64 0) ∧ Boxed W (w.heap.size + 1 + 1) 4 (.bool false) ∧ Boxed W (w.heap.size + 1 + 1 + 1) 3 (.int .i64 ((pre.length : Int) + 1))) ∧ (((pre.length : Int) < n ∧ w.heap.size + 6 ≤ W.heap.size) ∧ Below w.heap.size w W))
      (fun c pre W => c = .ret ∧ (∃ v : Nat, (Boxed W (w.heap.size + 1) 3 (.int .i64 v) ∧ Boxed W (w.heap.size + 1 + 1) 4 (.bool true)) ∧ (pre = List.range pre.length → (pre.length : Int) = n ∧ v = pl s false (pre.length - 1))) ∧ Below w.heap.size w W) ?hI ?hIx ⟨⟨x4, x6, x7, x8⟩, ⟨by simp; omega, by omega⟩, hb0⟩
      (fun k => { tmps := #[.string s, .int .i64 n, .bool false, undef, .pointer (some ⟨w.heap.size, 0, none⟩), undef, .pointer (some ⟨w.heap.size + 1, 0, none⟩), .pointer (some ⟨w.heap.size + 1 + 1, 0, none⟩), .pointer (some ⟨w.heap.size + 1 + 1 + 1, 0, none⟩), .int .i64 (pl s false k), .int .i64 n, .bool false, .bool false, .int .i64 n, .string s, .int .i64 s.size, .int .i64 (s.size + 1), .bool false, .bool false, .bool false, undef, undef, .string s, .func (.func 290) #[] #[.pointer (some ⟨w.heap.size + 1 + 1 + 1 + 1, 0, none⟩), .pointer (some ⟨w.heap.size + 1 + 1 + 1 + 1 + 1, 0, none⟩)], .int .i64 (pl s false k), .int .i64 (uCod s false (pl s false k)), undef, undef, undef, undef, undef, undef, undef, undef, undef, undef, undef], defers := [] }) ?assign ?body ?done ?stop
    case hI =>
      refine OwnFrom.and (OwnFrom.and (Own.from (boxed_own _ _ _) _) (OwnFrom.and (Own.from (boxed_own _ _ _) _) (OwnFrom.and (Own.from (boxed_own _ _ _) _) (Own.from (boxed_own _ _ (fun pre : List Nat => .int .i64 ((pre.length : Int) + 1))) _)))) (OwnFrom.and (fun _ A B row hs hg _ => ⟨hs.1, by have := hg.size; omega⟩) (ownFrom_below (Nat.le_refl _) (by omega)))
    case hIx =>
      rintro c pre A B row ⟨h1, ⟨v, ⟨h2, h3⟩, h4⟩, h5⟩ hg hr
      exact ⟨h1, ⟨v, ⟨boxed_own (β := Unit) (w.heap.size + 1) 3 (fun _ => .int .i64 v) () A B row h2 hg (fun r e => (hr r e).2), boxed_own (β := Unit) (w.heap.size + 1 + 1) 4 (fun _ => .bool true) () A B row h3 hg (fun r e => (hr r e).2)⟩, h4⟩, ownFrom_below (β := Unit) (Nat.le_refl _) (by omega) () A B row h5 hg hr⟩
    case assign =>
      intro l k W K hK
      gi_wp2
      exact hK
    case body =>
      rintro l pre k W ⟨⟨y4, y6, y7, y8⟩, ⟨hpn, hz⟩, hB⟩ hlen
      have c4 := y4.cell
      have c6 := y6.cell
      have f6 := y6.frozen
      have c7 := y7.cell
      have f7 := y7.frozen
      have c8 := y8.cell
      have f8 := y8.frozen
      have hl1 : (((pre ++ [k]).length : Nat) : Int) = (pre.length : Int) + 1 := by simp
      have hkn : pre ++ [k] = List.range (pre ++ [k]).length → k = pre.length := by
        intro he
        rw [List.length_append, List.length_cons, List.length_nil, Nat.zero_add] at he
        rw [List.range_succ] at he
        obtain ⟨_, h2⟩ := List.append_inj' he rfl
        simpa using h2
      have hl2 : (pre ++ [k]).length - 1 = pre.length := by simp
      obtain ⟨m, hm⟩ : ∃ m, pre.length = m := ⟨_, rfl⟩
      rw [hm] at c8 hl1 hl2 hkn hpn hlen y8
      have HL := Lib.hid hl1
      have HL2 := Lib.hid hl2
      have HKN := Lib.hid hkn
      have HY := Lib.hid (And.intro y4 (And.intro y6 (And.intro y7 y8)))
      have HB := Lib.hid hB
      have hple := pl_le s false k
      clear hl1 hl2 hkn y4 y6 y7 y8 hB hm x4 x6 x7 x8 xa xb hb0 hTW
      by_cases hmn : (m : Int) + 1 = n
      · have hmb : ((m : Int) + 1 == n) = true := by simp; omega
        have HMN := Lib.hid hmn
        clear hmn
        gi_wp2
        obtain ⟨z4, z6, z7, z8⟩ := HY.out
        exact ⟨(KeepsOthers.setCell _ _ _).trans (KeepsOthers.setCell _ _ _), rfl, ⟨pl s false k, ⟨(z6.set _).other (by omega) _, (z7.other (by omega) _).set _⟩, fun he => ⟨by rw [HL.out]; exact HMN.out, by rw [HL2.out, HKN.out he]⟩⟩, (HB.out.setCell (by show w.heap.size ≤ w.heap.size + 1; omega) _).setCell (by show w.heap.size ≤ w.heap.size + 1 + 1; omega) _⟩
      · have hmb : ((m : Int) + 1 == n) = false := by simp; omega
        gi_wp2
        obtain ⟨z4, z6, z7, z8⟩ := HY.out
        refine ⟨KeepsOthers.setCell _ _ _, KeepsAt.of_grown (grownBy_setCell' _ _ _) (fun c hc => ?_), ⟨z4.other (by omega) _, z6.other (by omega) _, z7.other (by omega) _, by rw [HL.out]; exact z8.set _⟩, ⟨by rw [HL.out]; omega, by simpa using hz⟩, HB.out.setCell (by show w.heap.size ≤ w.heap.size + 1 + 1 + 1; omega) _⟩
        have := tabs_lt hT
        simp only [List.mem_cons, List.not_mem_nil, or_false] at hc
        simp only [ne_eq, Option.some.injEq]
        omega
    case done =>
      rintro D xs W hD rfl ⟨⟨y4, y6, y7, y8⟩, ⟨hpn, hz⟩, hB⟩ hK
      rw [List.length_range] at y8 hpn
      have c4 := y4.cell
      have c6 := y6.cell
      have f6 := y6.frozen
      have c7 := y7.cell
      have f7 := y7.frozen
      have c8 := y8.cell
      have HB := Lib.hid hB
      have HY := Lib.hid (And.intro y6 y7)
      have HSZ := Lib.hid hsz
      by_cases hn : (cnt s false : Int) + 1 = n
      · have hmb : (((cnt s false : Nat) : Int) + 1 == n) = true := by simp; omega
        have hpz : placeZ s false n = (((s.size : Nat) : Int), true) := by
          rw [placeZ, if_pos (by omega), show (n - 1).toNat = cnt s false by omega, pl_cnt]
        have HPZ := Lib.hid hpz
        clear hn hpz y4 y6 y7 y8 hB hb0 hTW x4 x6 x7 x8 xa xb hsz
        gi_wp2
        have b6 := (HY.out.1.set (.int .i64 (s.size : Nat))).other (B' := w.heap.size + 1 + 1) (by omega) (.bool true)
        have b7 := (HY.out.2.other (B' := w.heap.size + 1) (by omega) (.int .i64 (s.size : Nat))).set (.bool true)
        have kD := ((KeepsOthers.setCell W ⟨w.heap.size + 1, 0, none⟩ (.int .i64 (s.size : Nat))).trans (KeepsOthers.setCell _ ⟨w.heap.size + 1 + 1, 0, none⟩ (.bool true))).same D _ hK rfl
        have hBY := (HB.out.setCell (p := ⟨w.heap.size + 1, 0, none⟩) (by show w.heap.size ≤ w.heap.size + 1; omega) (.int .i64 (s.size : Nat))).setCell (p := ⟨w.heap.size + 1 + 1, 0, none⟩) (by show w.heap.size ≤ w.heap.size + 1 + 1; omega) (.bool true)
        have hs' := HSZ.out
        have d6 := (b6.kept (grownBy_putObj' _ D (.deferred none)) (fun e => by have := Option.some.inj e; omega)).cell
        have d7 := (b7.kept (grownBy_putObj' _ D (.deferred none)) (fun e => by have := Option.some.inj e; omega)).cell
        refine ⟨by simp, .inl ⟨_, _, rfl, run_takeDeferred kD, .tuple #[.int .i64 (s.size : Nat), .bool true], ?_, by rw [HPZ.out], ?_⟩⟩
        · simp [results, Tryz.results258, go_sem, d6, d7]
        · exact hBY.trans (belowK_b (w := w) (Nat.le_refl _) _ D _ _ (by omega) kD rfl rfl)
      · have hmb : (((cnt s false : Nat) : Int) + 1 == n) = false := by simp; omega
        have hpz : placeZ s false n = (0, false) := by
          rw [placeZ, if_neg (by omega)]
        have HPZ := Lib.hid hpz
        clear hn hpz y4 y6 y7 y8 hB hb0 hTW x4 x6 x7 x8 xa xb hsz
        gi_wp2
        have b6 := (HY.out.1.set (.int .i64 0)).other (B' := w.heap.size + 1 + 1) (by omega) (.bool false)
        have b7 := (HY.out.2.other (B' := w.heap.size + 1) (by omega) (.int .i64 0)).set (.bool false)
        have kD := ((KeepsOthers.setCell W ⟨w.heap.size + 1, 0, none⟩ (.int .i64 0)).trans (KeepsOthers.setCell _ ⟨w.heap.size + 1 + 1, 0, none⟩ (.bool false))).same D _ hK rfl
        have hBY := (HB.out.setCell (p := ⟨w.heap.size + 1, 0, none⟩) (by show w.heap.size ≤ w.heap.size + 1; omega) (.int .i64 0)).setCell (p := ⟨w.heap.size + 1 + 1, 0, none⟩) (by show w.heap.size ≤ w.heap.size + 1 + 1; omega) (.bool false)
        have hs' := HSZ.out
        have d6 := (b6.kept (grownBy_putObj' _ D (.deferred none)) (fun e => by have := Option.some.inj e; omega)).cell
        have d7 := (b7.kept (grownBy_putObj' _ D (.deferred none)) (fun e => by have := Option.some.inj e; omega)).cell
        refine ⟨by simp, .inl ⟨_, _, rfl, run_takeDeferred kD, .tuple #[.int .i64 0, .bool false], ?_, by rw [HPZ.out], ?_⟩⟩
        · simp [results, Tryz.results258, go_sem, d6, d7]
        · exact hBY.trans (belowK_b (w := w) (Nat.le_refl _) _ D _ _ (by omega) kD rfl rfl)
    case stop =>
      rintro D c pre W hD ⟨k, hk, rfl⟩ ⟨rfl, ⟨v, ⟨y6, y7⟩, hv⟩, hB⟩ hK
      obtain ⟨hv1, hv2⟩ := hv (by simp)
      rw [List.length_range] at hv1 hv2
      have hpz : placeZ s false n = (((v : Nat) : Int), true) := by
        rw [placeZ, if_pos (by omega), hv2, show (n - 1).toNat = k - 1 by omega]
      have HPZ := Lib.hid hpz
      clear hpz hv hv1 hv2 hb0 hTW x4 x6 x7 x8 xa xb
      have HSZ := Lib.hid hsz
      have HB := Lib.hid hB
      clear hsz hB
      gi_wp2
      have hs' := HSZ.out
      have d6 := (y6.kept (grownBy_putObj' _ D (.deferred none)) (fun e => by have := Option.some.inj e; omega)).cell
      have d7 := (y7.kept (grownBy_putObj' _ D (.deferred none)) (fun e => by have := Option.some.inj e; omega)).cell
      refine ⟨by simp, .inl ⟨_, _, rfl, run_takeDeferred hK, .tuple #[.int .i64 (v : Nat), .bool true], ?_, by rw [HPZ.out], ?_⟩⟩
      · simp [results, Tryz.results258, go_sem, d6, d7]
      · exact HB.out.trans (belowK_b (w := w) (Nat.le_refl _) _ D _ _ (by omega) hK rfl rfl)
  · rw [cnt_byte] at hcl
    rw [placeZ, cnt_byte, if_pos (by omega), pl_byte s _ (by omega)]
    clear hT
    gi_wp2
    exact ⟨.tuple #[.int .i64 (n - 1), .bool true], by simp [results, Tryz.results258, go_sem], by simp; omega, ((((Below.refl w.heap.size w).alloc (Nat.le_refl _) _).alloc (by simp) _).alloc (by simp; omega) _)⟩
end Go.Proofs.YtddfigbpckhfbaaGreatDoor

namespace Go.Proofs.YtddfigbpckhfbaaGreatDoor
open Go.RowKit Go.Lib Go.Shelf
attribute [local go_sem] Oper.semAt_some

def aheadZ (s : ByteArray) (b : Bool) (n : Int) : Nat := if n < 1 then 0 else if (placeZ s b n).2 then (placeZ s b n).1.toNat else s.size

set_option maxRecDepth 100000 in
set_option maxHeartbeats 2000000 in
theorem ahead_in (s : ByteArray) (n : Int) (b : Bool) (w : World) (hs : s.size ≤ 1048576) (hT : Utf8Tabs 3 4 w) :
    CallsIn Fence.wide 10 Tryz.prog 230 #[.string s, .int .i64 n, .bool b] w fun e w' => e = .returned (.int .i64 (aheadZ s b n : Nat)) ∧ Below w.heap.size w w' := by
  refine callsIn_of_wp_marks Tryz.func230 rfl trivial ?_ rfl
  simp only [Tryz.ntmps230, List.size_toArray, List.length_cons, List.length_nil, Nat.reduceAdd, Nat.reduceSub, Array.replicate_succ, Array.replicate_zero, List.push_toArray, List.append_toArray, List.nil_append, List.cons_append]
  by_cases h1 : n < 1
  · rw [aheadZ, if_pos h1]
    clear hT
    gi_wp2
    exact ⟨.int .i64 0, by simp [results, Tryz.results230, go_sem], rfl, Below.refl w.heap.size w⟩
  · have PI := Lib.hid (place_in s n b w hs hT)
    clear hT
    rw [aheadZ, if_neg h1]
    gi_wp2_with fail
    refine ⟨trivial, (callsIn_wide.2 (callsIn_wide.1 PI.out)).mono ?_⟩
    rintro e W0 ⟨rfl, hW⟩
    have HW := Lib.hid hW
    clear hW PI
    have hz : (placeZ s b n).1 = max (placeZ s b n).1 0 := by
      have : 0 ≤ (placeZ s b n).1 := by rw [placeZ]; split <;> simp
      omega
    have HZ := Lib.hid hz
    clear hz
    cases hp : (placeZ s b n).2
    · gi_wp2
      all_goals exact ⟨.int .i64 (s.size : Nat), by simp [results, Tryz.results230, go_sem], rfl, HW.out⟩
    · gi_wp2
      exact ⟨.int .i64 (placeZ s b n).1, by simp [results, Tryz.results230, go_sem], by rw [← HZ.out], HW.out⟩
end Go.Proofs.YtddfigbpckhfbaaGreatDoor

namespace Go.Proofs.YtddfigbpckhfbaaGreatDoor
open Go.RowKit Go.Lib Go.Shelf
attribute [local go_sem] Oper.semAt_some

theorem aheadZ_pl (s : ByteArray) (b : Bool) (n : Int) : aheadZ s b n = pl s b (min (max n 1) (cnt s b + 1) - 1).toNat := by
  unfold aheadZ
  by_cases h1 : n < 1
  · rw [if_pos h1, show (min (max n 1) ((cnt s b : Int) + 1) - 1).toNat = 0 by omega]; rfl
  rw [if_neg h1]
  by_cases h2 : n ≤ cnt s b + 1
  · have e : placeZ s b n = (((pl s b (n - 1).toNat : Nat) : Int), true) := by rw [placeZ, if_pos ⟨by omega, h2⟩]
    rw [e, show (min (max n 1) ((cnt s b : Int) + 1) - 1).toNat = (n - 1).toNat by omega]; simp
  · have e : placeZ s b n = (0, false) := by rw [placeZ, if_neg (by omega)]
    rw [e, show (min (max n 1) ((cnt s b : Int) + 1) - 1).toNat = cnt s b by omega, pl_cnt]; simp

theorem sub_ahead (s : ByteArray) (b : Bool) (i j : Int) (h : i < j) : s.extract (aheadZ s b i) (aheadZ s b j) = subB s b i j := by
  rw [aheadZ_pl, aheadZ_pl]
  unfold subB
  by_cases hc : min j ((cnt s b : Int) + 1) ≤ max i 1
  · rw [if_pos hc, show (min (max j 1) ((cnt s b : Int) + 1) - 1).toNat = (min (max i 1) ((cnt s b : Int) + 1) - 1).toNat by omega]
    apply ByteArray.ext
    simp
  · rw [if_neg hc, show (min (max j 1) ((cnt s b : Int) + 1) - 1) = (min j ((cnt s b : Int) + 1) - 1) by omega, show (min (max i 1) ((cnt s b : Int) + 1) - 1) = (max i 1 - 1) by omega]

theorem sub_none (s : ByteArray) (b : Bool) (i j : Int) (h : j ≤ i) : subB s b i j = ⟨#[]⟩ := by
  unfold subB; rw [if_pos (by omega)]

set_option maxRecDepth 100000 in
set_option maxHeartbeats 2000000 in
theorem clone_in (s : ByteArray) (w : World) (hs : s.size ≤ 1048576) :
    CallsIn Fence.wide 10 Tryz.prog 87 #[.string s] w fun e w' => e = .returned (.string s) ∧ Below w.heap.size w w' := by
  have SC := Lib.hid (Tryz.stringslite_Clone s w (by omega))
  refine callsIn_of_wp_marks Tryz.func87 rfl trivial ?_ rfl
  simp only [Tryz.ntmps87, List.size_toArray, List.length_cons, List.length_nil, Nat.reduceAdd, Nat.reduceSub, Array.replicate_succ, Array.replicate_zero, List.push_toArray, List.append_toArray, List.nil_append, List.cons_append]
  gi_wp2_with fail
  refine ⟨trivial, (callsIn_wide.2 SC.out).mono ?_⟩
  rintro e W0 ⟨rfl, hW⟩
  gi_wp2
  exact ⟨.string s, by simp [results, Tryz.results87, go_sem], rfl, hW⟩

set_option maxRecDepth 100000 in
set_option maxHeartbeats 2000000 in
theorem sub_in (s : ByteArray) (i j : Int) (b : Bool) (w : World) (hs : s.size ≤ 1048576) (hT : Utf8Tabs 3 4 w) :
    CallsIn Fence.wide 10 Tryz.prog 192 #[.string s, .int .i64 i, .int .i64 j, .bool b] w fun e w' => e = .returned (.string (subB s b i j)) ∧ Below w.heap.size w w' := by
  refine callsIn_of_wp_marks Tryz.func192 rfl trivial ?_ rfl
  simp only [Tryz.ntmps192, List.size_toArray, List.length_cons, List.length_nil, Nat.reduceAdd, Nat.reduceSub, Array.replicate_succ, Array.replicate_zero, List.push_toArray, List.append_toArray, List.nil_append, List.cons_append]
  by_cases h1 : j ≤ i
  · rw [sub_none s b i j h1]
    clear hT
    gi_wp2
    exact ⟨.string ⟨#[]⟩, by simp [results, Tryz.results192, go_sem], rfl, Below.refl w.heap.size w⟩
  · have AI := Lib.hid (fun (n : Int) (W : World) (T : Utf8Tabs 3 4 W) => ahead_in s n b W hs T)
    have HT := Lib.hid hT
    have hij : aheadZ s b i ≤ aheadZ s b j := by
      rw [aheadZ_pl, aheadZ_pl]; exact pl_mono _ _ _ _ (by omega)
    have hjs : aheadZ s b j ≤ s.size := by rw [aheadZ_pl]; exact pl_le _ _ _
    have HE := Lib.hid (sub_ahead s b i j (by omega))
    have hse : (s.extract (aheadZ s b i) (aheadZ s b j)).size ≤ 1048576 := by rw [ByteArray.size_extract]; omega
    have CL := Lib.hid (fun (W : World) => clone_in (s.extract (aheadZ s b i) (aheadZ s b j)) W hse)
    clear hT hse
    gi_wp2_with fail
    refine ⟨trivial, (callsIn_wide.2 (callsIn_wide.1 (AI.out i _ HT.out))).mono ?_⟩
    rintro e W0 ⟨rfl, hW⟩
    have HW := Lib.hid hW
    clear hW
    gi_wp2_with fail
    refine ⟨trivial, (callsIn_wide.2 (callsIn_wide.1 (AI.out j _ (tabs_below HT.out HW.out (Nat.le_refl _))))).mono ?_⟩
    rintro e W1 ⟨rfl, hW⟩
    have HW1 := Lib.hid (HW.out.trans (hW.mono HW.out.size))
    clear hW
    gi_wp2_with fail
    refine ⟨trivial, (callsIn_wide.2 (callsIn_wide.1 (CL.out _))).mono ?_⟩
    rintro e W2 ⟨rfl, hW⟩
    gi_wp2
    all_goals exact ⟨.string (s.extract (aheadZ s b i) (aheadZ s b j)), by simp [results, Tryz.results192, go_sem], by rw [HE.out], HW1.out.trans (hW.mono HW1.out.size)⟩
end Go.Proofs.YtddfigbpckhfbaaGreatDoor

namespace Go.Proofs.YtddfigbpckhfbaaGreatDoor
open Go.RowKit Go.Lib

/-- What of a text is written, and how wide. -/
def cutT (pr : Int) (c : Nat) (s : ByteArray) (by' : Bool) : ByteArray := if c = 115 ∧ 0 ≤ pr then subB s by' 1 (pr + 1) else s
def textT (m : Bool) (wd pr : Int) (c : Nat) (s : ByteArray) (by' : Bool) : List UInt8 := fillL (cutT pr c s by').data.toList (wd - (cnt (cutT pr c s by') by' : Int)) m
theorem sub_size (s : ByteArray) (b : Bool) (i j : Int) : (subB s b i j).size ≤ s.size := by
  unfold subB
  split
  · exact Nat.zero_le _
  · rw [ByteArray.size_extract]
    omega
theorem cut_size (pr : Int) (c : Nat) (s : ByteArray) (b : Bool) : (cutT pr c s b).size ≤ s.size := by
  unfold cutT
  split
  · exact sub_size _ _ _ _
  · exact Nat.le_refl _
theorem verb_text {c : Nat} (h : c < 256) (hv : vText.contains c.toUInt8 = true) : c = 99 ∨ c = 115 := by
  have key : ∀ n : Fin 256, vText.contains (UInt8.ofNat n.val) = true → n.val = 99 ∨ n.val = 115 := by decide +kernel
  exact key ⟨c, h⟩ hv
set_option maxRecDepth 100000 in
set_option maxHeartbeats 8000000 in
theorem ftext_yes (m p b a z by' : Bool) (wd pr : Int) (c : Nat) (s : ByteArray) (w : World) (hs : s.size ≤ 1048576) (hc : c < 256) (hk : chkB wd pr c = true) (hv : vText.contains c.toUInt8 = true) (hT : Utf8Tabs 3 4 w) :
    Calls Tryz.prog 146 #[.agg #[.bool m, .bool p, .bool b, .bool a, .bool z, .int .i64 wd, .int .i64 pr, .int .u8 (c : Int)], .string s, .bool by'] w fun e w' => e = .returned (.tuple #[.string ⟨(textT m wd pr c s by').toArray⟩, .int .i64 0]) ∧ Below w.heap.size w w' := by
  obtain ⟨d0, d1, d2, d3⟩ := chk_bd hk
  have hcc := verb_text hc hv
  have cK := fun W => check_any m p b a z wd pr c W
  rw [hk, if_pos rfl] at cK
  have cA := fun W => among_any ⟨#[99, 115]⟩ c W
  replace cA : ∀ w : World, Calls Tryz.prog 179 #[.string ⟨#[99, 115]⟩, .int .u8 (c : Int)] w fun e w' => e = .returned (.bool (vText.contains c.toUInt8)) ∧ w = w' := cA
  rw [hv] at cA
  have cS := fun (W : World) h => callsIn_wide.1 (sub_in s 1 (pr + 1) by' W hs h)
  have cC := fun W => clone_str s W (by omega)
  obtain ⟨t, ht⟩ : ∃ t, cutT pr c s by' = t := ⟨_, rfl⟩
  have hts := cut_size pr c s by'
  rw [ht] at hts
  have hcl := cnt_le t by'
  have cL := fun W => len_any t by' W (by omega)
  obtain ⟨n, hn⟩ : ∃ n, cnt t by' = n := ⟨_, rfl⟩
  rw [hn] at cL hcl
  have hwr : IntKind.i64.wrap (wd - (n : Int)) = wd - (n : Int) := by rw [IntKind.wrap_i64]; omega
  have hwr2 : IntKind.i64.wrap (pr + 1) = pr + 1 := by rw [IntKind.wrap_i64]; omega
  have cF := fun W => fill_any t (wd - (n : Int)) m W (by omega) (by omega) (by omega)
  have hX : textT m wd pr c s by' = fillL t.data.toList (wd - (n : Int)) m := by unfold textT; rw [ht, hn]
  rw [hX]
  obtain ⟨X, hX⟩ : ∃ X : ByteArray, (⟨(fillL t.data.toList (wd - (n : Int)) m).toArray⟩ : ByteArray) = X := ⟨_, rfl⟩
  rw [hX] at cF ⊢
  have hS : (((c : Int) == 115) = true ∧ 0 ≤ pr ∧ subB s by' 1 (pr + 1) = t) ∨ (((c : Int) == 115) = false ∧ s = t) ∨ (((c : Int) == 115) = true ∧ pr < 0 ∧ s = t) := by
    unfold cutT at ht
    by_cases h1 : c = 115 ∧ 0 ≤ pr
    · rw [if_pos h1] at ht
      exact Or.inl ⟨by rw [beq_iff_eq]; omega, h1.2, ht⟩
    · rw [if_neg h1] at ht
      rcases hcc with h2 | h2
      · exact Or.inr (Or.inl ⟨by rw [beq_eq_false_iff_ne]; omega, ht⟩)
      · exact Or.inr (Or.inr ⟨by rw [beq_iff_eq]; omega, by omega, ht⟩)
  have CK := Lib.hid cK
  have CA := Lib.hid cA
  have CS := Lib.hid cS
  have CC := Lib.hid cC
  have CL := Lib.hid cL
  have CF := Lib.hid cF
  have HT := Lib.hid hT
  have FP := Lib.hid (Five.new w #[.bool m, .bool p, .bool b, .bool a, .bool z, .int .i64 wd, .int .i64 pr, .int .u8 (c : Int)] 94)
  have HB0 := Lib.hid ((Below.refl w.heap.size w).alloc (Nat.le_refl _) (.cells #[.bool m, .bool p, .bool b, .bool a, .bool z, .int .i64 wd, .int .i64 pr, .int .u8 (c : Int)] 94))
  obtain ⟨W1, hW1⟩ : ∃ W1, w.alloc (.cells #[.bool m, .bool p, .bool b, .bool a, .bool z, .int .i64 wd, .int .i64 pr, .int .u8 (c : Int)] 94) = W1 := ⟨_, rfl⟩
  rw [hW1] at FP HB0
  have HW1 := Lib.hid hW1
  clear cK cA cS cC cL cF hT hW1 hX hk hv hcc ht hn hs hts hcl d0 d1 d3
  have hle : w.heap.size ≤ W1.heap.size := HB0.out.size
  obtain ⟨B, hB⟩ : ∃ B, w.heap.size = B := ⟨_, rfl⟩
  rw [hB] at FP HB0 hle ⊢
  have HB := Lib.hid hB
  have HTW := Lib.hid (fun (W : World) (h : Below B w W) => tabs_below HT.out h (Nat.le_of_eq hB))
  clear hB
  rcases hS with ⟨hq, hp, hst⟩ | ⟨hq, rfl⟩ | ⟨hq, hp, rfl⟩
  all_goals
    obtain ⟨p0, p1, p2, p3, p4, p5, p6, p7⟩ := spec_cells FP.out
    go_enter Tryz.func146, Tryz.ntmps146
    go_wp2_with fail
    rw [HW1.out, HB.out]
    refine (CK.out _).mono ?_
    rintro e W2 ⟨rfl, h2⟩
    clear p0 p1 p2 p3 p4 p5 p6 p7
    obtain ⟨p0, p1, p2, p3, p4, p5, p6, p7⟩ := spec_cells (FP.out.below h2)
    have FP2 := Lib.hid (FP.out.below h2)
    have HB2 := Lib.hid (HB0.out.trans (h2.mono hle))
    have hle2 : B ≤ W2.heap.size := Nat.le_trans hle h2.size
    clear h2
    go_wp2_with fail
    refine (CA.out _).mono ?_
    rintro e w' ⟨rfl, rfl⟩
    go_wp2_with fail
  all_goals
    have HC3 := Lib.hid (fun (W : World) (h : Below W2.heap.size W2 W) => spec_cells (FP2.out.below h))
    first
    | (refine (CC.out _).mono ?_
       rintro e W3 ⟨rfl, h3⟩)
    | (refine (CS.out _ (HTW.out _ HB2.out)).mono ?_
       rintro e W3 ⟨rfl, h3⟩
       rw [hst])
    clear p0 p1 p2 p3 p4 p5 p6 p7
    obtain ⟨p0, p1, p2, p3, p4, p5, p6, p7⟩ := HC3.out _ h3
    have FP3 := Lib.hid (FP2.out.below h3)
    have HB3 := Lib.hid (HB2.out.trans (h3.mono hle2))
    have hle3 : B ≤ W3.heap.size := Nat.le_trans hle2 h3.size
    clear h3
    go_wp2_with fail
    have HCW := Lib.hid (fun (W : World) (h : Below W3.heap.size W3 W) => spec_cells (FP3.out.below h))
    have hR := Below.refl W3.heap.size W3
    go_region_held3 (fun w' => w'.cell? ⟨B, 0, none⟩ = some (.bool m) ∧ w'.cell? ⟨B, 1, none⟩ = some (.bool p) ∧ w'.cell? ⟨B, 2, none⟩ = some (.bool b) ∧ w'.cell? ⟨B, 3, none⟩ = some (.bool a) ∧ w'.cell? ⟨B, 4, none⟩ = some (.bool z) ∧ w'.cell? ⟨B, 5, none⟩ = some (.int .i64 wd) ∧ w'.cell? ⟨B, 6, none⟩ = some (.int .i64 pr) ∧ w'.cell? ⟨B, 7, none⟩ = some (.int .u8 (c : Int)))
      (first | (with_reducible exact S2) | (with_reducible exact S1) | go_keep)
      (first
      | (go_at_call 193; (with_reducible refine (CL.out _).mono ?_); rintro e W4 ⟨rfl, h4⟩; have b4 : Below W3.heap.size W3 W4 := ⟨h4.os, h4.tape, h4.output, h4.size, h4.block⟩; have S1 := HCW.out _ b4; clear h4)
      | (go_at_call 180; (with_reducible refine (CF.out _).mono ?_); rintro e W5 ⟨rfl, h5⟩; have b5 : Below W3.heap.size W3 W5 := b4.trans ((⟨h5.os, h5.tape, h5.output, h5.size, h5.block⟩ : Below W4.heap.size W4 W5).mono b4.size); have S2 := HCW.out _ b5; clear h5))
    all_goals
      have hBf := HB3.out.trans (b5.mono hle3)
      go_wp2_with fail
      go_ret2
      exact ⟨rfl, by first | exact hBf | exact ⟨hBf.os, hBf.tape, hBf.output, hBf.size, hBf.block⟩⟩
end Go.Proofs.YtddfigbpckhfbaaGreatDoor

namespace Go.Proofs.YtddfigbpckhfbaaGreatDoor
open Go.RowKit Go.Lib

/-- A value as a number. -/
noncomputable def numV2 (k : Int) (n : Nat) (s : ByteArray) : Nat := if k = 1 ∨ k = 3 then n else if k = 2 then preN s.data.toList else 0
set_option maxRecDepth 100000 in
set_option maxHeartbeats 4000000 in
theorem cNumber_any (k : Int) (n : Nat) (s : ByteArray) (w : World) (hs : s.size ≤ 140737488355328) : Calls Tryz.prog 53 #[.agg #[.int .i64 k, .float .f64 n, .string s]] w fun e w' => e = .returned (.float .f64 (numV2 k n s)) ∧ Below w.heap.size w w' := by
  have cP := fun W => prefix_val s W hs
  have F := Five.new w #[.int .i64 k, .float .f64 n, .string s] 38
  have hb := (Below.refl w.heap.size w).alloc (Nat.le_refl _) (.cells #[.int .i64 k, .float .f64 n, .string s] 38)
  unfold numV2
  obtain ⟨x, hx⟩ : ∃ x, preN s.data.toList = x := ⟨_, rfl⟩
  obtain ⟨zz, hzz⟩ : ∃ zz, (sigL s.data.toList).2.2.2.2 = zz := ⟨_, rfl⟩
  rw [hx, hzz] at cP
  rw [hx]
  obtain ⟨y, hy⟩ : ∃ y, (if k = 1 ∨ k = 3 then n else if k = 2 then x else 0) = y := ⟨_, rfl⟩
  rw [hy]
  have HY := Lib.hid hy
  have CP := Lib.hid cP
  have HB := Lib.hid hb
  clear cP hx hzz hy hb F
  have hcase : k = 1 ∨ k = 3 ∨ k = 2 ∨ (k ≠ 1 ∧ k ≠ 3 ∧ k ≠ 2) := by omega
  rcases hcase with rfl | rfl | rfl | ⟨h1, h2, h3⟩
  · go_enter Tryz.func53, Tryz.ntmps53
    go_wp2_with fail
    go_ret
    exact ⟨by rw [← HY.out]; rfl, HB.out⟩
  · go_enter Tryz.func53, Tryz.ntmps53
    go_wp2_with fail
    go_ret
    exact ⟨by rw [← HY.out]; rfl, HB.out⟩
  · go_enter Tryz.func53, Tryz.ntmps53
    go_wp2_with fail
    refine (CP.out _).mono ?_
    rintro e W2 ⟨rfl, h2⟩
    have hBf := HB.out.trans (h2.mono HB.out.size)
    clear h2
    go_wp2_with fail
    go_ret
    exact ⟨by rw [← HY.out]; rfl, hBf⟩
  · have v1 : (k == 1) = false := by rw [beq_eq_false_iff_ne]; exact h1
    have v2 : (k == 3) = false := by rw [beq_eq_false_iff_ne]; exact h2
    have v3 : (k == 2) = false := by rw [beq_eq_false_iff_ne]; exact h3
    have hy0 : y = 0 := by rw [← HY.out, if_neg (by omega), if_neg h3]
    clear h1 h2 h3
    go_enter Tryz.func53, Tryz.ntmps53
    go_wp2_with fail
    go_ret
    exact ⟨by first | rfl | (rw [hy0]; rfl), HB.out⟩
end Go.Proofs.YtddfigbpckhfbaaGreatDoor

namespace Go.Proofs.YtddfigbpckhfbaaGreatDoor
open Go.RowKit Go.Lib

set_option maxRecDepth 100000 in
set_option maxHeartbeats 4000000 in
theorem written_str (k : Int) (n : Nat) (s P : ByteArray) (w : World) (h : k = 2 ∨ k = 3) : Calls Tryz.prog 57 #[.agg #[.int .i64 k, .float .f64 n, .string s], .string P] w fun e w' => e = .returned (.string s) ∧ Below w.heap.size w w' := by
  have hb := (Below.refl w.heap.size w).alloc (Nat.le_refl _) (.cells #[.int .i64 k, .float .f64 n, .string s] 38)
  have HB := Lib.hid hb
  clear hb
  rcases h with rfl | rfl
  all_goals
    go_enter Tryz.func57, Tryz.ntmps57
    go_wp2_with fail
    go_ret
    exact ⟨rfl, HB.out⟩
set_option maxRecDepth 100000 in
set_option maxHeartbeats 4000000 in
theorem written_none (k : Int) (n : Nat) (s P : ByteArray) (w : World) (h1 : k ≠ 1) (h2 : k ≠ 2) (h3 : k ≠ 3) : Calls Tryz.prog 57 #[.agg #[.int .i64 k, .float .f64 n, .string s], .string P] w fun e w' => e = .returned (.string ⟨#[]⟩) ∧ Below w.heap.size w w' := by
  have hb := (Below.refl w.heap.size w).alloc (Nat.le_refl _) (.cells #[.int .i64 k, .float .f64 n, .string s] 38)
  have HB := Lib.hid hb
  have v1 : (k == 1) = false := by rw [beq_eq_false_iff_ne]; exact h1
  have v2 : (k == 3) = false := by rw [beq_eq_false_iff_ne]; exact h3
  have v3 : (k == 2) = false := by rw [beq_eq_false_iff_ne]; exact h2
  clear hb h1 h2 h3
  go_enter Tryz.func57, Tryz.ntmps57
  go_wp2_with fail
  go_ret
  exact ⟨rfl, HB.out⟩
set_option maxRecDepth 100000 in
set_option maxHeartbeats 4000000 in
theorem written_num (n : Nat) (s P T : ByteArray) (w : World) (hC : ∀ W, PowTab W → Calls Tryz.prog 90 #[.float .f64 n, .string P] W fun e w' => e = .returned (.string T) ∧ Below W.heap.size W w') (hT : PowTab w) : Calls Tryz.prog 57 #[.agg #[.int .i64 1, .float .f64 n, .string s], .string P] w fun e w' => e = .returned (.string T) ∧ Below w.heap.size w w' := by
  have hb := (Below.refl w.heap.size w).alloc (Nat.le_refl _) (.cells #[.int .i64 1, .float .f64 n, .string s] 38)
  have C := Lib.hid (hC _ (Lib.tabBelow_of_tabIs hT _ hb))
  have HB := Lib.hid hb
  clear hb hC hT
  go_enter Tryz.func57, Tryz.ntmps57
  go_wp2_with fail
  refine C.out.mono ?_
  rintro e W2 ⟨rfl, h2⟩
  have hBf := HB.out.trans (h2.mono HB.out.size)
  clear h2
  go_wp2_with fail
  go_ret
  exact ⟨rfl, hBf⟩
/-- A value as a string, by a pattern that makes T of its number. -/
def wrT (k : Int) (s T : ByteArray) : ByteArray := if k = 1 then T else if k = 2 ∨ k = 3 then s else ⟨#[]⟩
theorem written_any (k : Int) (n : Nat) (s P T : ByteArray) (w : World) (hC : k = 1 → ∀ W, PowTab W → Calls Tryz.prog 90 #[.float .f64 n, .string P] W fun e w' => e = .returned (.string T) ∧ Below W.heap.size W w') (hT : PowTab w) : Calls Tryz.prog 57 #[.agg #[.int .i64 k, .float .f64 n, .string s], .string P] w fun e w' => e = .returned (.string (wrT k s T)) ∧ Below w.heap.size w w' := by
  unfold wrT
  by_cases h1 : k = 1
  · subst h1
    rw [if_pos rfl]
    exact written_num n s P T w (hC rfl) hT
  · rw [if_neg h1]
    by_cases h2 : k = 2 ∨ k = 3
    · rw [if_pos h2]
      exact written_str k n s P w h2
    · rw [if_neg h2]
      exact written_none k n s P w h1 (by omega) (by omega)
set_option maxRecDepth 100000 in
set_option maxHeartbeats 4000000 in
theorem cString_any (k : Int) (n : Nat) (s P T : ByteArray) (w : World) (hC : k = 1 → ∀ W, PowTab W → Calls Tryz.prog 90 #[.float .f64 n, .string P] W fun e w' => e = .returned (.string T) ∧ Below W.heap.size W w') (hT : PowTab w) (hs : (wrT k s T).size ≤ 140737488355328) : Calls Tryz.prog 52 #[.agg #[.int .i64 k, .float .f64 n, .string s], .string P] w fun e w' => e = .returned (.string (wrT k s T)) ∧ Below w.heap.size w w' := by
  have C := Lib.hid (fun (W : World) (hW : PowTab W) => written_any k n s P T W hC hW)
  have CC := Lib.hid (fun W => clone_str (wrT k s T) W hs)
  have HT := Lib.hid (Lib.tabBelow_of_tabIs hT)
  obtain ⟨X, hX⟩ : ∃ X, wrT k s T = X := ⟨_, rfl⟩
  have C := C.out
  have CC := CC.out
  rw [hX] at C CC ⊢
  have C := Lib.hid C
  have CC := Lib.hid CC
  clear hX hC hT hs
  have HB := Lib.hid ((Below.refl w.heap.size w).alloc (Nat.le_refl _) (.cells #[.int .i64 k, .float .f64 n, .string s] 38))
  go_enter Tryz.func52, Tryz.ntmps52
  go_wp2_with fail
  refine (C.out _ (HT.out _ HB.out)).mono ?_
  rintro e W2 ⟨rfl, h2⟩
  have hB2 := HB.out.trans (h2.mono HB.out.size)
  clear h2
  go_wp2_with fail
  refine (CC.out _).mono ?_
  rintro e W3 ⟨rfl, h3⟩
  have hB3 := hB2.trans (h3.mono hB2.size)
  clear h3 hB2
  go_wp2_with fail
  go_ret
  exact ⟨rfl, hB3⟩
end Go.Proofs.YtddfigbpckhfbaaGreatDoor

namespace Go.Proofs.YtddfigbpckhfbaaGreatDoor
open Go.RowKit Go.Lib

/-- A value. -/
structure Cl where
  kind : Int
  bits : Nat
  str : ByteArray
def Cl.cells (x : Cl) : List Value := [.int .i64 x.kind, .float .f64 x.bits, .string x.str]
def Cl.val (x : Cl) : Value := .agg #[.int .i64 x.kind, .float .f64 x.bits, .string x.str]
structure Cl.fine (x : Cl) : Prop where
  bits : x.bits < 18446744073709551616
  str : x.str.size ≤ 140737488355328
noncomputable def Cl.num (x : Cl) : Nat := numV2 x.kind x.bits x.str
/-- A number as a width or a precision. -/
def figI (x : Nat) : Int := if 9218868437227405312 < mag x then 0 else max (-2000) (min (whZ x) 2000)
/-- A number as a character's code. -/
def chrN (x : Nat) : Nat := if mag x < 9218868437227405312 ∧ sgn x = 0 ∧ whQ (mag x) ≤ 2147483647 then whQ (mag x) else 0
/-- The character that a value stands for. -/
def letB (x : Cl) (by' : Bool) : ByteArray :=
  if x.kind ≠ 1 ∧ x.kind ≠ 3 then subB x.str by' 1 2
  else if 0 < (textB (chrN x.bits : Int)).size ∧ by' = false then textB (chrN x.bits : Int) else ⟨#[(chrN x.bits % 256).toUInt8]⟩
noncomputable def szW (m : Bool) (wd : Int) (sw : Bool) (l : List Cl) : Option (Bool × Int × List Cl) :=
  if sw = true then
    match l with
    | [] => none
    | c :: t => some (m || decide (figI c.num < 0), max (figI c.num) (-figI c.num), t)
  else some (m, wd, l)
noncomputable def szP (pr : Int) (sp : Bool) (l : List Cl) : Option (Int × List Cl) :=
  if sp = true then
    match l with
    | [] => none
    | c :: t => some (max (figI c.num) (-1), t)
  else some (pr, l)
/-- What a part writes with the value that it takes. -/
noncomputable def oneT (cv : Nat → ByteArray) (by' : Bool) (x : Pc) (m : Bool) (wd pr : Int) (c : Cl) : List UInt8 :=
  if x.c = 115 then textT m wd pr 115 (wrT c.kind c.str (cv c.bits)) by'
  else if x.c = 99 then textT m wd pr 99 (letB c by') by'
  else numT m x.p x.b x.a x.z wd pr x.c c.num
/-- What a part writes, and the values that are left; nothing, if it is refused. -/
noncomputable def textP (cv : Nat → ByteArray) (by' : Bool) (x : Pc) (l : List Cl) : Option (List UInt8 × List Cl) :=
  match szW x.m x.wd x.sw l with
  | none => none
  | some (m, wd, l1) =>
    match szP x.pr x.sp l1 with
    | none => none
    | some (pr, l2) =>
      if x.c = 37 then if chkB wd pr 37 = true then some ([37], l2) else none
      else match l2 with
        | [] => none
        | c :: l3 => if chkB wd pr x.c = true then some (oneT cv by' x m wd pr c, l3) else none
abbrev Spr := Except Int (List UInt8 × List Cl)
noncomputable def sprF (cv : Nat → ByteArray) (by' : Bool) (S : ByteArray) : Nat → Nat → List Cl → List UInt8 → Spr
  | 0, _, l, o => .ok (o, l)
  | f + 1, k, l, o =>
    if k < S.size then
      if atB S k = 37 then
        match partF S k with
        | none => .error 50
        | some x =>
          match textP cv by' x l with
          | none => .error 50
          | some (t, l') => if 1024 < o.length + t.length then .error 3 else sprF cv by' S f x.nx l' (o ++ t)
      else if 1024 < o.length + 1 then .error 3 else sprF cv by' S f (k + 1) l (o ++ [(atB S k).toUInt8])
    else .ok (o, l)
theorem spr_fuel (cv : Nat → ByteArray) (by' : Bool) (S : ByteArray) : ∀ f f' k l o, S.size - k ≤ f → S.size - k ≤ f' → sprF cv by' S f k l o = sprF cv by' S f' k l o := by
  intro f
  induction f with
  | zero =>
    intro f' k l o h h'
    cases f' with
    | zero => rfl
    | succ f' => rw [sprF, sprF, if_neg (by omega)]
  | succ f ih =>
    intro f' k l o h h'
    cases f' with
    | zero => rw [sprF, sprF, if_neg (by omega)]
    | succ f' =>
      rw [sprF, sprF]
      by_cases hk : k < S.size
      · rw [if_pos hk, if_pos hk]
        by_cases h37 : atB S k = 37
        · rw [if_pos h37, if_pos h37]
          cases hp : partF S k with
          | none => rfl
          | some x =>
            have := (part_ends hp).1
            dsimp only
            cases ht : textP cv by' x l with
            | none => rfl
            | some y =>
              dsimp only
              rw [ih f' x.nx y.2 (o ++ y.1) (by omega) (by omega)]
        · rw [if_neg h37, if_neg h37, ih f' (k + 1) l _ (by omega) (by omega)]
      · rw [if_neg hk, if_neg hk]
/-- What is written from a place on, with the values that are left, behind what is written. -/
noncomputable def sprR (cv : Nat → ByteArray) (by' : Bool) (S : ByteArray) (k : Nat) (l : List Cl) (o : List UInt8) : Spr := sprF cv by' S (S.size - k) k l o
section
variable {cv : Nat → ByteArray} {by' : Bool} {S : ByteArray}
theorem spr_done {k : Nat} {l : List Cl} {o : List UInt8} (h : S.size ≤ k) : sprR cv by' S k l o = .ok (o, l) := by
  unfold sprR
  rw [show S.size - k = 0 by omega, sprF]
theorem spr_byte {k : Nat} {l : List Cl} {o : List UInt8} (h : k < S.size) (h37 : atB S k ≠ 37) : sprR cv by' S k l o = if 1024 < o.length + 1 then .error 3 else sprR cv by' S (k + 1) l (o ++ [(atB S k).toUInt8]) := by
  unfold sprR
  obtain ⟨f, hf⟩ : ∃ f, S.size - k = f + 1 := ⟨S.size - k - 1, by omega⟩
  rw [hf, sprF, if_pos h, if_neg h37, show S.size - (k + 1) = f by omega]
theorem spr_bad {k : Nat} {l : List Cl} {o : List UInt8} (h : k < S.size) (h37 : atB S k = 37) (hp : partF S k = none) : sprR cv by' S k l o = .error 50 := by
  unfold sprR
  obtain ⟨f, hf⟩ : ∃ f, S.size - k = f + 1 := ⟨S.size - k - 1, by omega⟩
  rw [hf, sprF, if_pos h, if_pos h37, hp]
theorem spr_no {k : Nat} {l : List Cl} {o : List UInt8} {x : Pc} (hp : partF S k = some x) (ht : textP cv by' x l = none) : sprR cv by' S k l o = .error 50 := by
  obtain ⟨q1, q2, q3, -⟩ := part_ends hp
  unfold sprR
  obtain ⟨f, hf⟩ : ∃ f, S.size - k = f + 1 := ⟨S.size - k - 1, by omega⟩
  rw [hf, sprF, if_pos (by omega), if_pos q3, hp]
  dsimp only
  rw [ht]
theorem spr_part {k : Nat} {l l' : List Cl} {o t : List UInt8} {x : Pc} (hp : partF S k = some x) (ht : textP cv by' x l = some (t, l')) : sprR cv by' S k l o = if 1024 < o.length + t.length then .error 3 else sprR cv by' S x.nx l' (o ++ t) := by
  obtain ⟨q1, q2, q3, -⟩ := part_ends hp
  unfold sprR
  obtain ⟨f, hf⟩ : ∃ f, S.size - k = f + 1 := ⟨S.size - k - 1, by omega⟩
  rw [hf, sprF, if_pos (by omega), if_pos q3, hp]
  dsimp only
  rw [ht]
  dsimp only
  rw [spr_fuel cv by' S f (S.size - x.nx) x.nx l' _ (by omega) (Nat.le_refl _)]
/-- n bytes from k on. -/
def bytesN (S : ByteArray) (k : Nat) : Nat → List UInt8
  | 0 => []
  | n + 1 => bytesN S k n ++ [(atB S (k + n)).toUInt8]
theorem bytesN_len (S : ByteArray) (k : Nat) : ∀ n, (bytesN S k n).length = n := by
  intro n
  induction n with
  | zero => rfl
  | succ n ih => rw [bytesN, List.length_append, ih]; rfl
theorem bytesN_front (S : ByteArray) (k : Nat) : ∀ n, bytesN S k (n + 1) = (atB S k).toUInt8 :: bytesN S (k + 1) n := by
  intro n
  induction n with
  | zero => rfl
  | succ n ih =>
    rw [bytesN, ih, bytesN, show k + (n + 1) = k + 1 + n by omega]
    rfl
theorem bytesN_ext {S : ByteArray} {k n : Nat} (h : k + n ≤ S.size) : (S.extract k (k + n)).data.toList = bytesN S k n := by
  induction n with
  | zero =>
    rw [Nat.add_zero, bytesN, ByteArray.data_extract, Array.toList_extract]
    simp [List.extract_eq_take_drop]
  | succ n ih =>
    have e := ih (by omega)
    rw [bytesN, ← e, ByteArray.data_extract, ByteArray.data_extract, Array.toList_extract, Array.toList_extract]
    simp only [List.extract_eq_take_drop]
    rw [show k + (n + 1) - k = n + 1 by omega, show k + n - k = n by omega, List.take_add_one, List.getElem?_drop]
    congr 1
    have := ba_byte S rfl (k + n) (by omega)
    rw [this, atB_in (by omega)]
    simp
/-- A run of bytes that are no percent sign is written at once. -/
theorem spr_run {k n : Nat} {l : List Cl} {o : List UInt8} (hk : k + n ≤ S.size) (h : ∀ i, i < n → atB S (k + i) ≠ 37) (ho : o.length ≤ 1024) :
    sprR cv by' S k l o = if 1024 < o.length + n then .error 3 else sprR cv by' S (k + n) l (o ++ bytesN S k n) := by
  induction n generalizing k o with
  | zero => rw [if_neg (by omega), bytesN, List.append_nil]; rfl
  | succ n ih =>
    have h0 := h 0 (by omega)
    rw [Nat.add_zero] at h0
    rw [spr_byte (by omega) h0]
    by_cases hl : 1024 < o.length + 1
    · rw [if_pos hl, if_pos (by omega)]
    · rw [if_neg hl, ih (k := k + 1) (by omega) (fun i hi => by have := h (i + 1) (by omega); rwa [show k + (i + 1) = k + 1 + i by omega] at this) (by rw [List.length_append]; show o.length + 1 ≤ 1024; omega)]
      rw [List.length_append, bytesN_front, show k + 1 + n = k + (n + 1) by omega, List.append_assoc]
      show (if 1024 < o.length + 1 + n then _ else _) = _
      rw [show o.length + 1 + n = o.length + (n + 1) by omega]
      rfl
/-- What is written only grows. -/
theorem spr_grows : ∀ f k l o a l', sprF cv by' S f k l o = .ok (a, l') → o.length ≤ a.length := by
  intro f
  induction f with
  | zero => intro k l o a l' h; rw [sprF] at h; cases h; exact Nat.le_refl _
  | succ f ih =>
    intro k l o a l' h
    rw [sprF] at h
    split at h
    case isFalse => cases h; exact Nat.le_refl _
    split at h
    · split at h
      · cases h
      · split at h
        · cases h
        · split at h
          · cases h
          · have := ih _ _ _ _ _ h
            rw [List.length_append] at this
            omega
    · split at h
      · cases h
      · have := ih _ _ _ _ _ h
        rw [List.length_append] at this
        omega
/-- No more than 1024 bytes are written. -/
theorem spr_len : ∀ f k l o a l', sprF cv by' S f k l o = .ok (a, l') → o.length ≤ 1024 → a.length ≤ 1024 := by
  intro f
  induction f with
  | zero => intro k l o a l' h ho; rw [sprF] at h; cases h; exact ho
  | succ f ih =>
    intro k l o a l' h ho
    rw [sprF] at h
    split at h
    case isFalse => cases h; exact ho
    split at h
    · split at h
      · cases h
      · split at h
        · cases h
        · split at h
          · cases h
          · exact ih _ _ _ _ _ h (by rw [List.length_append]; omega)
    · split at h
      · cases h
      · exact ih _ _ _ _ _ h (by rw [List.length_append]; show o.length + 1 ≤ 1024; omega)
end
/-- More values behind don't matter where no value lacks. -/
theorem szW_more {m : Bool} {wd : Int} {sw : Bool} {l : List Cl} {y : Bool × Int × List Cl} (h : szW m wd sw l = some y) (e : List Cl) : szW m wd sw (l ++ e) = some (y.1, y.2.1, y.2.2 ++ e) := by
  unfold szW at h ⊢
  split at h
  · rename_i hs
    rw [if_pos hs]
    cases l with
    | nil => cases h
    | cons c t => cases h; rfl
  · rename_i hs
    rw [if_neg hs]
    cases h; rfl
theorem szP_more {pr : Int} {sp : Bool} {l : List Cl} {y : Int × List Cl} (h : szP pr sp l = some y) (e : List Cl) : szP pr sp (l ++ e) = some (y.1, y.2 ++ e) := by
  unfold szP at h ⊢
  split at h
  · rename_i hs
    rw [if_pos hs]
    cases l with
    | nil => cases h
    | cons c t => cases h; rfl
  · rename_i hs
    rw [if_neg hs]
    cases h; rfl
theorem textP_more {cv : Nat → ByteArray} {by' : Bool} {x : Pc} {l l' : List Cl} {t : List UInt8} (h : textP cv by' x l = some (t, l')) (e : List Cl) : textP cv by' x (l ++ e) = some (t, l' ++ e) := by
  unfold textP at h ⊢
  cases h1 : szW x.m x.wd x.sw l with
  | none => rw [h1] at h; cases h
  | some y =>
    rw [h1] at h
    rw [szW_more h1 e]
    dsimp only at h ⊢
    cases h2 : szP x.pr x.sp y.2.2 with
    | none => rw [h2] at h; cases h
    | some z =>
      rw [h2] at h
      rw [szP_more h2 e]
      dsimp only at h ⊢
      by_cases h37 : x.c = 37
      · rw [if_pos h37] at h ⊢
        split at h
        · rename_i hc; rw [if_pos hc]; cases h; rfl
        · cases h
      · rw [if_neg h37] at h ⊢
        cases hz : z.2 with
        | nil => rw [hz] at h; cases h
        | cons c l3 =>
          rw [hz] at h
          dsimp only [List.cons_append] at h ⊢
          split at h
          · rename_i hc; rw [if_pos hc]; cases h; rfl
          · cases h
theorem szW_left {m : Bool} {wd : Int} {sw : Bool} {l : List Cl} {y : Bool × Int × List Cl} (h : szW m wd sw l = some y) : ∃ u, l = u ++ y.2.2 ∧ szW m wd sw u = some (y.1, y.2.1, []) := by
  unfold szW at h
  split at h
  · rename_i hs
    cases l with
    | nil => cases h
    | cons c t => cases h; exact ⟨[c], rfl, by unfold szW; rw [if_pos hs]⟩
  · rename_i hs
    cases h; exact ⟨[], rfl, by unfold szW; rw [if_neg hs]⟩
theorem szP_left {pr : Int} {sp : Bool} {l : List Cl} {y : Int × List Cl} (h : szP pr sp l = some y) : ∃ u, l = u ++ y.2 ∧ szP pr sp u = some (y.1, []) := by
  unfold szP at h
  split at h
  · rename_i hs
    cases l with
    | nil => cases h
    | cons c t => cases h; exact ⟨[c], rfl, by unfold szP; rw [if_pos hs]⟩
  · rename_i hs
    cases h; exact ⟨[], rfl, by unfold szP; rw [if_neg hs]⟩
/-- A part takes a beginning of the values, and wants no more of them. -/
theorem textP_left {cv : Nat → ByteArray} {by' : Bool} {x : Pc} {l l' : List Cl} {t : List UInt8} (h : textP cv by' x l = some (t, l')) : ∃ u, l = u ++ l' ∧ textP cv by' x u = some (t, []) := by
  unfold textP at h
  cases h1 : szW x.m x.wd x.sw l with
  | none => rw [h1] at h; cases h
  | some y =>
    rw [h1] at h
    dsimp only at h
    obtain ⟨u1, e1, w1⟩ := szW_left h1
    cases h2 : szP x.pr x.sp y.2.2 with
    | none => rw [h2] at h; cases h
    | some z =>
      rw [h2] at h
      dsimp only at h
      obtain ⟨u2, e2, w2⟩ := szP_left h2
      by_cases h37 : x.c = 37
      · rw [if_pos h37] at h
        split at h
        · rename_i hc
          cases h
          refine ⟨u1 ++ u2, by rw [List.append_assoc, ← e2, e1], ?_⟩
          unfold textP
          rw [szW_more w1 u2]
          dsimp only [List.nil_append]
          rw [w2]
          dsimp only
          rw [if_pos h37, if_pos hc]
        · cases h
      · rw [if_neg h37] at h
        cases hz : z.2 with
        | nil => rw [hz] at h; cases h
        | cons c l3 =>
          rw [hz] at h
          dsimp only at h
          split at h
          · rename_i hc
            cases h
            refine ⟨u1 ++ (u2 ++ [c]), by rw [e1, e2, hz, List.append_assoc, List.append_assoc, List.singleton_append], ?_⟩
            unfold textP
            rw [szW_more w1 (u2 ++ [c])]
            dsimp only [List.nil_append]
            rw [szP_more w2 [c]]
            dsimp only [List.nil_append]
            rw [if_neg h37]
            rw [if_pos hc]
          · cases h
section
variable {cv : Nat → ByteArray} {by' : Bool}
/-- The first of two formats writes what it writes alone, whatever values stand behind. -/
theorem spr_first {F G : ByteArray} : ∀ n k l o a l' e, F.size - k ≤ n → k ≤ F.size → sprR cv by' F k l o = .ok (a, l') → sprR cv by' (F ++ G) k (l ++ e) o = sprR cv by' (F ++ G) F.size (l' ++ e) a := by
  intro n
  induction n with
  | zero =>
    intro k l o a l' e hn hk h
    rw [spr_done (by omega)] at h
    cases h
    rw [show k = F.size by omega]
  | succ n ih =>
    intro k l o a l' e hn hk h
    by_cases hlt : k < F.size
    · have hat := atB_left (F := F) (G := G) hlt
      by_cases h37 : atB F k = 37
      · cases hp : partF F k with
        | none => rw [spr_bad hlt h37 hp] at h; cases h
        | some x =>
          obtain ⟨q1, q2, -⟩ := part_ends hp
          cases ht : textP cv by' x l with
          | none => rw [spr_no hp ht] at h; cases h
          | some y =>
            rw [spr_part hp (t := y.1) (l' := y.2) ht] at h
            rw [spr_part (part_left hp) (textP_more (t := y.1) (l' := y.2) ht e)]
            split at h
            · cases h
            · rename_i hl
              rw [if_neg hl]
              exact ih _ _ _ _ _ e (by omega) q2 h
      · rw [spr_byte hlt h37] at h
        rw [spr_byte (by rw [size_two]; omega) (by rw [hat]; exact h37), hat]
        split at h
        · cases h
        · rename_i hl
          rw [if_neg hl]
          exact ih _ _ _ _ _ e (by omega) (by omega) h
    · have : k = F.size := by omega
      subst this
      rw [spr_done (Nat.le_refl _)] at h
      cases h
      rfl
/-- The values that are left are an end of them, and those ahead are enough. -/
theorem spr_left {F : ByteArray} : ∀ n k l o a l', F.size - k ≤ n → sprR cv by' F k l o = .ok (a, l') → ∃ u, l = u ++ l' ∧ sprR cv by' F k u o = .ok (a, []) := by
  intro n
  induction n with
  | zero =>
    intro k l o a l' hn h
    rw [spr_done (by omega)] at h
    cases h
    exact ⟨[], rfl, spr_done (by omega)⟩
  | succ n ih =>
    intro k l o a l' hn h
    by_cases hlt : k < F.size
    · by_cases h37 : atB F k = 37
      · cases hp : partF F k with
        | none => rw [spr_bad hlt h37 hp] at h; cases h
        | some x =>
          obtain ⟨q1, q2, -⟩ := part_ends hp
          cases ht : textP cv by' x l with
          | none => rw [spr_no hp ht] at h; cases h
          | some y =>
            rw [spr_part hp (t := y.1) (l' := y.2) ht] at h
            split at h
            · cases h
            · rename_i hl
              obtain ⟨u1, e1, w1⟩ := textP_left (t := y.1) (l' := y.2) ht
              obtain ⟨u2, e2, w2⟩ := ih _ _ _ _ _ (by omega) h
              refine ⟨u1 ++ u2, by rw [List.append_assoc, ← e2, e1], ?_⟩
              rw [spr_part hp (textP_more w1 u2), if_neg hl]
              exact w2
      · rw [spr_byte hlt h37] at h
        split at h
        · cases h
        · rename_i hl
          obtain ⟨u2, e2, w2⟩ := ih _ _ _ _ _ (by omega) h
          exact ⟨u2, e2, by rw [spr_byte hlt h37, if_neg hl]; exact w2⟩
    · rw [spr_done (by omega)] at h
      cases h
      exact ⟨[], rfl, spr_done (by omega)⟩
/-- The second one goes on as it goes alone. -/
theorem spr_second {F G : ByteArray} : ∀ n k l o, G.size - k ≤ n → k ≤ G.size → sprR cv by' (F ++ G) (F.size + k) l o = sprR cv by' G k l o := by
  intro n
  induction n with
  | zero =>
    intro k l o hn hk
    rw [spr_done (S := F ++ G) (by rw [size_two]; omega), spr_done (S := G) (by omega)]
  | succ n ih =>
    intro k l o hn hk
    by_cases hlt : k < G.size
    · have hlt2 : F.size + k < (F ++ G).size := by rw [size_two]; omega
      have hat := atB_right (F := F) (G := G) (k := k)
      by_cases h37 : atB G k = 37
      · cases hp : partF G k with
        | none => rw [spr_bad hlt h37 hp, spr_bad hlt2 (by rw [hat]; exact h37) (part_right_none hk hp)]
        | some x =>
          obtain ⟨q1, q2, -⟩ := part_ends hp
          have hp2 := part_right (F := F) hp
          have ex : ∀ l, textP cv by' ⟨x.m, x.p, x.b, x.a, x.z, x.wd, x.pr, x.c, x.sw, x.sp, F.size + x.nx⟩ l = textP cv by' x l := fun l => rfl
          cases ht : textP cv by' x l with
          | none => rw [spr_no hp ht, spr_no hp2 ((ex l).trans ht)]
          | some y =>
            rw [spr_part hp (t := y.1) (l' := y.2) ht, spr_part hp2 (t := y.1) (l' := y.2) ((ex l).trans ht)]
            split
            · rfl
            · exact ih _ _ _ (by omega) q2
      · rw [spr_byte hlt h37, spr_byte hlt2 (by rw [hat]; exact h37), hat]
        split
        · rfl
        · exact ih (k + 1) l _ (by omega) (by omega)
    · rw [spr_done (S := F ++ G) (by rw [size_two]; omega), spr_done (S := G) (by omega)]
/-- What stands ahead only takes room. -/
theorem spr_room {G : ByteArray} : ∀ n k l p o, G.size - k ≤ n → (p ++ o).length ≤ 1024 →
    match sprR cv by' G k l o with
    | .ok (b, l') => if 1024 < p.length + b.length then sprR cv by' G k l (p ++ o) = .error 3 else sprR cv by' G k l (p ++ o) = .ok (p ++ b, l')
    | .error e => sprR cv by' G k l (p ++ o) = .error e ∨ sprR cv by' G k l (p ++ o) = .error 3 := by
  intro n
  induction n with
  | zero =>
    intro k l p o hn hl
    rw [spr_done (by omega), spr_done (by omega)]
    dsimp only
    rw [List.length_append] at hl
    rw [if_neg (by omega)]
  | succ n ih =>
    intro k l p o hn hl
    have hl2 := hl
    rw [List.length_append] at hl2
    by_cases hlt : k < G.size
    · by_cases h37 : atB G k = 37
      · cases hp : partF G k with
        | none => rw [spr_bad hlt h37 hp, spr_bad hlt h37 hp]; exact Or.inl rfl
        | some x =>
          obtain ⟨q1, q2, -⟩ := part_ends hp
          cases ht : textP cv by' x l with
          | none => rw [spr_no hp ht, spr_no hp ht]; exact Or.inl rfl
          | some y =>
            rw [spr_part hp (t := y.1) (l' := y.2) ht, spr_part hp (t := y.1) (l' := y.2) ht]
            by_cases c1 : 1024 < o.length + y.1.length
            · rw [if_pos c1, if_pos (by rw [List.length_append]; omega)]
              exact Or.inl rfl
            · rw [if_neg c1]
              by_cases c2 : 1024 < (p ++ o).length + y.1.length
              · rw [if_pos c2]
                have := spr_grows (cv := cv) (by' := by') (S := G) (G.size - x.nx) x.nx y.2 (o ++ y.1)
                rw [List.length_append] at c2
                cases hr : sprR cv by' G x.nx y.2 (o ++ y.1) with
                | error e => exact Or.inr rfl
                | ok z =>
                  dsimp only
                  have := this z.1 z.2 (by unfold sprR at hr; exact hr)
                  rw [List.length_append] at this
                  rw [if_pos (by omega)]
              · rw [if_neg c2, List.append_assoc]
                exact ih _ _ p (o ++ y.1) (by omega) (by rw [← List.append_assoc, List.length_append]; omega)
      · rw [spr_byte hlt h37, spr_byte hlt h37]
        by_cases c1 : 1024 < o.length + 1
        · rw [if_pos c1, if_pos (by rw [List.length_append]; omega)]
          exact Or.inl rfl
        · rw [if_neg c1]
          by_cases c2 : 1024 < (p ++ o).length + 1
          · rw [if_pos c2]
            rw [List.length_append] at c2
            have := spr_grows (cv := cv) (by' := by') (S := G) (G.size - (k + 1)) (k + 1) l (o ++ [(atB G k).toUInt8])
            cases hr : sprR cv by' G (k + 1) l (o ++ [(atB G k).toUInt8]) with
            | error e => exact Or.inr rfl
            | ok z =>
              dsimp only
              have := this z.1 z.2 (by unfold sprR at hr; exact hr)
              rw [List.length_append] at this
              change o.length + 1 ≤ _ at this
              rw [if_pos (by omega)]
          · rw [if_neg c2, List.append_assoc]
            exact ih _ _ p _ (by omega) (by rw [← List.append_assoc, List.length_append]; show (p ++ o).length + 1 ≤ 1024; omega)
    · rw [spr_done (by omega), spr_done (by omega)]
      dsimp only
      rw [if_neg (by omega)]
end
end Go.Proofs.YtddfigbpckhfbaaGreatDoor

namespace Go.Proofs.YtddfigbpckhfbaaGreatDoor
open Go.RowKit Go.Lib

attribute [local irreducible] FloatKind.decode in
theorem trunc_step_quiet (x : Nat) (s : Bool) (f : Nat) (hd : FloatKind.f64.decode x = .nan s f) (hq : FloatKind.f64.format.quiet f = f) : Extern.MathFloor.toIntegral "math.archTrunc" .zero #[.float .f64 x] = pure (.float .f64 x) := by
  conv => lhs; whnf
  rw [hd]
  show (if FloatKind.f64.format.quiet f = f then _ else _) = _
  rw [if_pos hq]
attribute [local irreducible] FloatKind.decode in
theorem trunc_step_loud (x : Nat) (s : Bool) (f : Nat) (hd : FloatKind.f64.decode x = .nan s f) (hq : ¬ FloatKind.f64.format.quiet f = f) : Extern.MathFloor.toIntegral "math.archTrunc" .zero #[.float .f64 x] = (do
      let kept ← choose (.extern "math.Floor,Ceil,Trunc,RoundToEven.signallingNaN kept" 2)
      pure (.float .f64 (if kept == 1 then x else FloatKind.f64.encode (.nan s (FloatKind.f64.format.quiet f))))) := by
  conv => lhs; whnf
  rw [hd]
  show (if FloatKind.f64.format.quiet f = f then _ else _) = _
  rw [if_neg hq]
end Go.Proofs.YtddfigbpckhfbaaGreatDoor
