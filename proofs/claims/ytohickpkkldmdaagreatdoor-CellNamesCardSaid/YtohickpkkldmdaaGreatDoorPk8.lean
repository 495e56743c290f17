/- Several texts in one (Contracts of layer 5: the reader's bytes (peek, take, flags, amount); Contracts of layer 5: the reader's flags and amounts; Contracts of layer 5: the reader's amounts; Plain: a float's seventeen digits are nearest to it. No walk here; Plain: numerals with a point and an exponent in texts. No walk here; Plain: rounding hangs on the ratio alone; texts of digits cut and padded. No walk here; Plain: a natural as a float is the nearest one; digits ahead of any text. No walk here; Contracts of layer 4: cutHex; Contracts of layer 4: Pow). -/
import Derived.Deep.QuietTactic
import Derived.BigQuiet
import Derived.WalkSpells
import Derived.Test.YtohickpkkldmdaaGreatDoorPk7
namespace Go.Proofs.YtohickpkkldmdaaGreatDoor
open Go.RowKit Go.Lib

/-- Only the blocks of the list may have turned. -/
structure Out (G : List Nat) (w w' : World) : Prop where
  os : w'.os = w.os
  tape : w'.tape = w.tape
  output : w'.output = w.output
  size : w.heap.size ≤ w'.heap.size
  block : ∀ k, k ∉ G → k < w.heap.size → w'.heap[k]? = w.heap[k]?
theorem Out.refl (G : List Nat) (w : World) : Out G w w := ⟨rfl, rfl, rfl, Nat.le_refl _, fun _ _ _ => rfl⟩
theorem Out.trans {G : List Nat} {a b c : World} (h : Out G a b) (k : Out G b c) : Out G a c :=
  ⟨k.os.trans h.os, k.tape.trans h.tape, k.output.trans h.output, Nat.le_trans h.size k.size, fun i hi hl => (k.block i hi (Nat.lt_of_lt_of_le hl h.size)).trans (h.block i hi hl)⟩
theorem Out.more {G G' : List Nat} {a b : World} (h : Out G a b) (hs : ∀ x ∈ G, x ∈ G') : Out G' a b :=
  ⟨h.os, h.tape, h.output, h.size, fun k hk hl => h.block k (fun hx => hk (hs k hx)) hl⟩
theorem Out.below {G : List Nat} {a b : World} {B : Nat} (h : Out G a b) (hB : B ≤ a.heap.size) (hG : ∀ x ∈ G, B ≤ x) : Below B a b :=
  ⟨h.os, h.tape, h.output, h.size, fun k hk => h.block k (fun hx => by have := hG k hx; omega) (Nat.lt_of_lt_of_le hk hB)⟩
theorem Out.of_below {G : List Nat} {a b : World} (h : Below a.heap.size a b) : Out G a b :=
  ⟨h.os, h.tape, h.output, h.size, fun k _ hl => h.block k hl⟩
theorem Out.five {G : List Nat} {a b : World} {g : Nat} {cs : Array Value} {t : TypeId} (h : Out G a b) (f : Five a g cs t) (hg : g ∉ G) : Five b g cs t := ⟨(h.block g hg f.lt).trans f.row⟩
theorem Out.set {G : List Nat} {a w : World} (h : Out G a w) {p : Addr} (hp : p.block ∈ G) (u : Value) : Out G a (w.setCell p u) := by
  have hb := (Below.refl 0 w).setCell (p := p) (Nat.zero_le _) u
  refine ⟨hb.os.trans h.os, hb.tape.trans h.tape, hb.output.trans h.output, Nat.le_trans h.size hb.size, fun k hk hl => ?_⟩
  rw [Below.heap_setCell w p u k (fun e => hk (e ▸ hp))]
  exact h.block k hk hl
/-- The byte at a place; 0 behind the last one. -/
def atB (S : ByteArray) (k : Nat) : Nat := if h : k < S.size then (S[k]'h).toNat else 0
theorem atB_lt (S : ByteArray) (k : Nat) : atB S k < 256 := by
  unfold atB
  split
  · exact UInt8.toNat_lt _
  · omega
theorem atB_in {S : ByteArray} {k : Nat} (h : k < S.size) : atB S k = (S[k]'h).toNat := dif_pos h
theorem atB_out {S : ByteArray} {k : Nat} (h : ¬ k < S.size) : atB S k = 0 := dif_neg h
set_option maxRecDepth 100000 in
set_option maxHeartbeats 1000000 in
theorem peek_any (S : ByteArray) (k g : Nat) (w : World) (hk : k ≤ S.size) (_hS : S.size ≤ 4611686018427387904) (h : Five w g #[.string S, .int .i64 k] 92) :
    Calls Tryz.prog 114 #[.pointer (some ⟨g, 0, none⟩)] w fun e w' => e = .returned (.int .u8 (atB S k)) ∧ ∃ n, w' = w.drewN n := by
  have h0 := h.cell 0
  have h1 := h.cell 1
  have f0 := h.fro 0
  have f1 := h.fro 1
  by_cases hlt : k < S.size
  · rw [atB_in hlt]
    have hne : ((k : Int) == (S.size : Int)) = false := by rw [beq_eq_false_iff_ne]; omega
    go_enter Tryz.func114, Tryz.ntmps114
    go_wp2_with fail
    go_quiet (fail)
    go_wp2_with fail
    go_quiet (fail)
    go_wp2_with fail
    go_ret
    first | exact ⟨rfl, _, rfl⟩ | exact ⟨rfl, _, World.drewN_drewN _ _ _⟩
  · rw [atB_out hlt]
    have hne : ((k : Int) == (S.size : Int)) = true := by rw [beq_iff_eq]; omega
    go_enter Tryz.func114, Tryz.ntmps114
    go_wp2_with fail
    go_quiet (fail)
    go_wp2_with fail
    go_ret
    first | exact ⟨rfl, _, rfl⟩ | exact ⟨rfl, _, World.drewN_drewN _ _ _⟩
/-- The reader's block, its place told. -/
abbrev Rdr (w : World) (g : Nat) (S : ByteArray) (k : Nat) : Prop := Five w g #[.string S, .int .i64 k] 92
theorem Rdr.step {w : World} {g : Nat} {S : ByteArray} {k : Nat} (h : Rdr w g S k) (j : Nat) : Rdr (w.setCell ⟨g, 1, none⟩ (.int .i64 j)) g S j := by
  have h2 := Five.set (j := 1) (u := .int .i64 j) h
  exact h2
theorem Five.drew {W : World} {g : Nat} {cs : Array Value} {t : TypeId} (h : Five W g cs t) (n : Nat) : Five (W.drewN n) g cs t := ⟨h.row⟩
theorem Out.drew {G : List Nat} {a b : World} (h : Out G a b) (n : Nat) : Out G a (b.drewN n) := ⟨h.os, h.tape, h.output, h.size, h.block⟩
set_option maxRecDepth 100000 in
set_option maxHeartbeats 1000000 in
theorem take_any (S : ByteArray) (k g c : Nat) (w : World) (hk : k ≤ S.size) (hS : S.size ≤ 4611686018427387904) (hc : 0 < c) (h : Rdr w g S k) :
    Calls Tryz.prog 111 #[.pointer (some ⟨g, 0, none⟩), .int .u8 (c : Int)] w fun e w' => e = .returned (.bool (decide (atB S k = c))) ∧ Rdr w' g S (if atB S k = c then k + 1 else k) ∧ Out [g] w w' := by
  have CP := Lib.hid (peek_any S k g w hk hS h)
  have H := Lib.hid h
  by_cases he : atB S k = c
  · rw [if_pos he, decide_eq_true he]
    have hlt : k < S.size := by
      rcases Nat.lt_or_ge k S.size with h2 | h2
      · exact h2
      · rw [atB_out (by omega)] at he; omega
    have hw : wrap64 ((k : Int) + 1) = ((k + 1 : Nat) : Int) := by unfold wrap64; omega
    have HE := Lib.hid he
    clear h he
    rw [HE.out] at CP
    have hb : ((c : Int) == (c : Int)) = true := beq_self_eq_true _
    have hb2 : ((c : Int) != (c : Int)) = false := by rw [bne_eq_false_iff_eq]
    go_enter Tryz.func111, Tryz.ntmps111
    go_wp2_with fail
    refine CP.out.mono ?_
    rintro e w' ⟨rfl, n, rfl⟩
    have h1 := (H.out.drew n).cell 1
    have f1 := (H.out.drew n).fro 1
    go_wp2_with fail
    go_ret
    exact ⟨rfl, (show Rdr (w.drewN n) g S k from H.out.drew n).step (k + 1), ((Out.refl _ _).drew n).set (by simp) _⟩
  · rw [if_neg he, decide_eq_false he]
    obtain ⟨y, hy⟩ : ∃ y, atB S k = y := ⟨_, rfl⟩
    rw [hy] at CP he
    have hb : ((c : Int) == (y : Int)) = false := by rw [beq_eq_false_iff_ne]; omega
    have hb2 : ((c : Int) != (y : Int)) = true := by rw [bne_iff_ne]; omega
    have hb3 : ((y : Int) == (c : Int)) = false := by rw [beq_eq_false_iff_ne]; omega
    have hb4 : ((y : Int) != (c : Int)) = true := by rw [bne_iff_ne]; omega
    clear h hy he
    go_enter Tryz.func111, Tryz.ntmps111
    go_wp2_with fail
    refine CP.out.mono ?_
    rintro e w' ⟨rfl, n, rfl⟩
    go_wp2_with fail
    go_ret
    exact ⟨rfl, H.out.drew n, (Out.refl _ _).drew n⟩
end Go.Proofs.YtohickpkkldmdaaGreatDoor

namespace Go.Proofs.YtohickpkkldmdaaGreatDoor
open Go.RowKit Go.Lib

/-- How many bytes from a place on are of a kind. -/
def runP (p : Nat → Bool) (S : ByteArray) (k : Nat) : Nat → Nat
  | 0 => 0
  | f + 1 => if p (atB S k) = true then 1 + runP p S (k + 1) f else 0
theorem runP_at {p : Nat → Bool} {S : ByteArray} {k n f : Nat} (hn : n ≤ f) (h : ∀ i, i < n → p (atB S (k + i)) = true) (hs : p (atB S (k + n)) = false ∨ n = f) : runP p S k f = n := by
  induction f generalizing k n with
  | zero => rw [runP]; omega
  | succ f ih =>
    rw [runP]
    rcases Nat.eq_zero_or_pos n with rfl | h0
    · rcases hs with hs | hs
      · rw [Nat.add_zero] at hs
        rw [if_neg (by rw [hs]; decide)]
      · omega
    · obtain ⟨m, rfl⟩ : ∃ m, n = m + 1 := ⟨n - 1, by omega⟩
      have h1 := h 0 (by omega)
      rw [Nat.add_zero] at h1
      rw [if_pos h1, ih (n := m) (by omega) (fun i hi => by have := h (i + 1) (by omega); rwa [show k + (i + 1) = k + 1 + i by omega] at this) (by rcases hs with hs | hs
                                                                                                                                                   · left; rwa [show k + (m + 1) = k + 1 + m by omega] at hs
                                                                                                                                                   · right; omega)]
      omega
def isFl (c : Nat) : Bool := c == 45 || c == 43 || c == 32 || c == 35 || c == 48
def isDg (c : Nat) : Bool := decide (48 ≤ c) && decide (c ≤ 57)
/-- Where the flags end. -/
def flE (S : ByteArray) (k : Nat) : Nat := k + runP isFl S k (S.size - k)
/-- Does a byte stand among the n ones from k on? -/
def hasN (S : ByteArray) (k c : Nat) : Nat → Bool
  | 0 => false
  | n + 1 => hasN S k c n || atB S (k + n) == c
def flV (S : ByteArray) (k n : Nat) : Array Value := #[.bool (hasN S k 45 n), .bool (hasN S k 43 n), .bool (hasN S k 32 n), .bool (hasN S k 35 n), .bool (hasN S k 48 n), .int .i64 0, .int .i64 0, .int .u8 0, .bool false, .bool false, .int .i64 0]
def atOf (w : World) (g : Nat) : Nat := match w.cell? ⟨g, 1, none⟩ with
  | some (.int _ z) => z.toNat
  | _ => 0
theorem atOf_rdr {w : World} {g k : Nat} {S : ByteArray} (h : Rdr w g S k) : atOf w g = k := by
  unfold atOf
  rw [h.cell 1]
  rfl
theorem isFl_cases {c : Nat} : isFl c = true ↔ c = 45 ∨ c = 43 ∨ c = 32 ∨ c = 35 ∨ c = 48 := by
  unfold isFl
  simp [or_assoc]
theorem hasN_step {S : ByteArray} {k n x : Nat} (h : atB S (k + n) = x) (c : Nat) : hasN S k c (n + 1) = (hasN S k c n || x == c) := by
  rw [hasN, h]
theorem atB_size {S : ByteArray} {k : Nat} (h : 0 < atB S k) : k < S.size := by
  rcases Nat.lt_or_ge k S.size with h2 | h2
  · exact h2
  · rw [atB_out (by omega)] at h; omega
theorem run_end {p : Nat → Bool} (_h0 : p 0 = false) {S : ByteArray} {k n : Nat} (hk : k + n ≤ S.size) (h : ∀ i, i < n → p (atB S (k + i)) = true) (hs : p (atB S (k + n)) = false) : runP p S k (S.size - k) = n :=
  runP_at (by omega) h (Or.inl hs)
theorem flV_step {S : ByteArray} {k n x : Nat} (h : atB S (k + n) = x) : flV S k (n + 1) = #[.bool (hasN S k 45 n || x == 45), .bool (hasN S k 43 n || x == 43), .bool (hasN S k 32 n || x == 32), .bool (hasN S k 35 n || x == 35), .bool (hasN S k 48 n || x == 48), .int .i64 0, .int .i64 0, .int .u8 0, .bool false, .bool false, .int .i64 0] := by
  unfold flV
  rw [hasN_step h, hasN_step h, hasN_step h, hasN_step h, hasN_step h]
set_option maxRecDepth 100000 in
set_option maxHeartbeats 8000000 in
theorem flags_any (S : ByteArray) (k g h : Nat) (w : World) (hk : k ≤ S.size) (hS : S.size ≤ 4611686018427387904) (hR : Rdr w g S k) (hP : Five w h (flV S k 0) 37) (hne : g ≠ h) :
    Calls Tryz.prog 112 #[.pointer (some ⟨g, 0, none⟩), .pointer (some ⟨h, 0, none⟩)] w fun e w' => e = .returned (.tuple #[]) ∧ Rdr w' g S (flE S k) ∧ Five w' h (flV S k (flE S k - k)) 37 ∧ Out [g, h] w w' := by
  have CP := Lib.hid (fun (j : Nat) (W : World) (hj : j ≤ S.size) (H : Rdr W g S j) => peek_any S j g W hj hS H)
  have ne1 : ¬ g = h := hne
  have ne2 : ¬ h = g := fun e => hne e.symm
  clear hne
  go_enter Tryz.func112, Tryz.ntmps112
  go_wp2_with fail
  go_loopw [] (fun wr => ∃ n : Nat, k + n ≤ S.size ∧ Rdr wr g S (k + n) ∧ Five wr h (flV S k n) 37 ∧ Out [g, h] w wr ∧ ∀ i, i < n → isFl (atB S (k + i)) = true) (fun wr => S.size - atOf wr g)
  case atStart => exact ⟨0, hk, hR, hP, Out.refl _ _, fun i hi => absurd hi (Nat.not_lt_zero i)⟩
  case round =>
    obtain ⟨n, hn, hRr, hPr, hO, hall⟩ := hrel
    have CQ := Lib.hid (CP.out _ _ hn hRr)
    have HRr := Lib.hid hRr
    have HPr := Lib.hid hPr
    have HO := Lib.hid hO
    have HALL := Lib.hid hall
    obtain ⟨x, hx⟩ : ∃ x, atB S (k + n) = x := ⟨_, rfl⟩
    rw [hx] at CQ
    have HX := Lib.hid hx
    have HS := Lib.hid (flV_step hx)
    have HM := Lib.hid (atOf_rdr hRr)
    clear hR hP hRr hPr hO hall hx
    by_cases hfl : isFl x = true
    · have hlt : k + n < S.size := atB_size (by rw [HX.out]; rcases isFl_cases.1 hfl with h | h | h | h | h <;> omega)
      have hw : wrap64 (((k + n : Nat) : Int) + 1) = ((k + n + 1 : Nat) : Int) := by unfold wrap64; omega
      have hwI : wrap64 ((k : Int) + (n : Int) + 1) = ((k + n + 1 : Nat) : Int) := by unfold wrap64; omega
      have hall2 : ∀ i, i < n + 1 → isFl (atB S (k + i)) = true := fun i hi => by
        rcases Nat.lt_or_ge i n with h2 | h2
        · exact HALL.out i h2
        · obtain rfl : n = i := by omega
          rw [HX.out]; exact hfl
      have HALL2 := Lib.hid hall2
      have hcase := isFl_cases.1 hfl
      clear hall2 hfl
      rcases hcase with rfl | rfl | rfl | rfl | rfl
      · have e : flV S k (n + 1) = (flV S k n).setIfInBounds 0 (.bool true) := by rw [HS.out]; unfold flV; simp
        have HE := Lib.hid e
        clear e
        go_wp2_with fail
        refine CQ.out.mono ?_
        rintro e W1 ⟨rfl, q, rfl⟩
        have c0 := (HPr.out.drew q).cell 0
        have f0 := (HPr.out.drew q).fro 0
        have c1 := (HRr.out.drew q).cell 1
        have f1 := (HRr.out.drew q).fro 1
        go_wp2_with fail
        go_roundw
        case rel => exact ⟨n + 1, by omega, ((show Rdr _ g S (k + n) from (HRr.out.drew q).other (j := 0) (u := .bool true) ne1).step (k + n + 1)), by rw [HE.out]; exact ((HPr.out.drew q).set (j := 0) (u := .bool true)).other (j := 1) ne2, ((HO.out.drew q).set (p := ⟨h, 0, none⟩) (by simp) _).set (p := ⟨g, 1, none⟩) (by simp) _, HALL2.out⟩
        case measure =>
          rw [HM.out]
          have hm2 := atOf_rdr ((show Rdr _ g S (k + n) from (HRr.out.drew q).other (j := 0) (u := .bool true) ne1).step (k + n + 1))
          rw [show (k : Int) + (n : Int) + 1 = ((k + n + 1 : Nat) : Int) by omega, hm2]
          omega
      · have e : flV S k (n + 1) = (flV S k n).setIfInBounds 1 (.bool true) := by rw [HS.out]; unfold flV; simp
        have HE := Lib.hid e
        clear e
        go_wp2_with fail
        refine CQ.out.mono ?_
        rintro e W1 ⟨rfl, q, rfl⟩
        have c0 := (HPr.out.drew q).cell 1
        have f0 := (HPr.out.drew q).fro 1
        have c1 := (HRr.out.drew q).cell 1
        have f1 := (HRr.out.drew q).fro 1
        go_wp2_with fail
        go_roundw
        case rel => exact ⟨n + 1, by omega, ((show Rdr _ g S (k + n) from (HRr.out.drew q).other (j := 1) (u := .bool true) ne1).step (k + n + 1)), by rw [HE.out]; exact ((HPr.out.drew q).set (j := 1) (u := .bool true)).other (j := 1) ne2, ((HO.out.drew q).set (p := ⟨h, 1, none⟩) (by simp) _).set (p := ⟨g, 1, none⟩) (by simp) _, HALL2.out⟩
        case measure =>
          rw [HM.out]
          have hm2 := atOf_rdr ((show Rdr _ g S (k + n) from (HRr.out.drew q).other (j := 1) (u := .bool true) ne1).step (k + n + 1))
          rw [show (k : Int) + (n : Int) + 1 = ((k + n + 1 : Nat) : Int) by omega, hm2]
          omega
      · have e : flV S k (n + 1) = (flV S k n).setIfInBounds 2 (.bool true) := by rw [HS.out]; unfold flV; simp
        have HE := Lib.hid e
        clear e
        go_wp2_with fail
        refine CQ.out.mono ?_
        rintro e W1 ⟨rfl, q, rfl⟩
        have c0 := (HPr.out.drew q).cell 2
        have f0 := (HPr.out.drew q).fro 2
        have c1 := (HRr.out.drew q).cell 1
        have f1 := (HRr.out.drew q).fro 1
        go_wp2_with fail
        go_roundw
        case rel => exact ⟨n + 1, by omega, ((show Rdr _ g S (k + n) from (HRr.out.drew q).other (j := 2) (u := .bool true) ne1).step (k + n + 1)), by rw [HE.out]; exact ((HPr.out.drew q).set (j := 2) (u := .bool true)).other (j := 1) ne2, ((HO.out.drew q).set (p := ⟨h, 2, none⟩) (by simp) _).set (p := ⟨g, 1, none⟩) (by simp) _, HALL2.out⟩
        case measure =>
          rw [HM.out]
          have hm2 := atOf_rdr ((show Rdr _ g S (k + n) from (HRr.out.drew q).other (j := 2) (u := .bool true) ne1).step (k + n + 1))
          rw [show (k : Int) + (n : Int) + 1 = ((k + n + 1 : Nat) : Int) by omega, hm2]
          omega
      · have e : flV S k (n + 1) = (flV S k n).setIfInBounds 3 (.bool true) := by rw [HS.out]; unfold flV; simp
        have HE := Lib.hid e
        clear e
        go_wp2_with fail
        refine CQ.out.mono ?_
        rintro e W1 ⟨rfl, q, rfl⟩
        have c0 := (HPr.out.drew q).cell 3
        have f0 := (HPr.out.drew q).fro 3
        have c1 := (HRr.out.drew q).cell 1
        have f1 := (HRr.out.drew q).fro 1
        go_wp2_with fail
        go_roundw
        case rel => exact ⟨n + 1, by omega, ((show Rdr _ g S (k + n) from (HRr.out.drew q).other (j := 3) (u := .bool true) ne1).step (k + n + 1)), by rw [HE.out]; exact ((HPr.out.drew q).set (j := 3) (u := .bool true)).other (j := 1) ne2, ((HO.out.drew q).set (p := ⟨h, 3, none⟩) (by simp) _).set (p := ⟨g, 1, none⟩) (by simp) _, HALL2.out⟩
        case measure =>
          rw [HM.out]
          have hm2 := atOf_rdr ((show Rdr _ g S (k + n) from (HRr.out.drew q).other (j := 3) (u := .bool true) ne1).step (k + n + 1))
          rw [show (k : Int) + (n : Int) + 1 = ((k + n + 1 : Nat) : Int) by omega, hm2]
          omega
      · have e : flV S k (n + 1) = (flV S k n).setIfInBounds 4 (.bool true) := by rw [HS.out]; unfold flV; simp
        have HE := Lib.hid e
        clear e
        go_wp2_with fail
        refine CQ.out.mono ?_
        rintro e W1 ⟨rfl, q, rfl⟩
        have c0 := (HPr.out.drew q).cell 4
        have f0 := (HPr.out.drew q).fro 4
        have c1 := (HRr.out.drew q).cell 1
        have f1 := (HRr.out.drew q).fro 1
        go_wp2_with fail
        go_roundw
        case rel => exact ⟨n + 1, by omega, ((show Rdr _ g S (k + n) from (HRr.out.drew q).other (j := 4) (u := .bool true) ne1).step (k + n + 1)), by rw [HE.out]; exact ((HPr.out.drew q).set (j := 4) (u := .bool true)).other (j := 1) ne2, ((HO.out.drew q).set (p := ⟨h, 4, none⟩) (by simp) _).set (p := ⟨g, 1, none⟩) (by simp) _, HALL2.out⟩
        case measure =>
          rw [HM.out]
          have hm2 := atOf_rdr ((show Rdr _ g S (k + n) from (HRr.out.drew q).other (j := 4) (u := .bool true) ne1).step (k + n + 1))
          rw [show (k : Int) + (n : Int) + 1 = ((k + n + 1 : Nat) : Int) by omega, hm2]
          omega
    · have hfl2 : isFl x = false := by rw [Bool.not_eq_true] at hfl; exact hfl
      have hne : x ≠ 45 ∧ x ≠ 43 ∧ x ≠ 32 ∧ x ≠ 35 ∧ x ≠ 48 := by
        refine ⟨?_, ?_, ?_, ?_, ?_⟩ <;> (rintro rfl; exact hfl rfl)
      have b1 : ((x : Int) == 45) = false := by rw [beq_eq_false_iff_ne]; omega
      have b2 : ((x : Int) == 43) = false := by rw [beq_eq_false_iff_ne]; omega
      have b3 : ((x : Int) == 32) = false := by rw [beq_eq_false_iff_ne]; omega
      have b4 : ((x : Int) == 35) = false := by rw [beq_eq_false_iff_ne]; omega
      have b5 : ((x : Int) == 48) = false := by rw [beq_eq_false_iff_ne]; omega
      have HEND := Lib.hid (show flE S k = k + n by unfold flE; rw [run_end rfl hn HALL.out (by rw [HX.out]; exact hfl2)])
      clear hfl hfl2 hne
      go_wp2_with fail
      refine CQ.out.mono ?_
      rintro e W1 ⟨rfl, q, rfl⟩
      go_wp2_with fail
      refine bodyPost_ret (results_none rfl _ _ _) rfl ?_
      refine ⟨rfl, ?_, ?_, HO.out.drew q⟩
      · rw [HEND.out]; exact HRr.out.drew q
      · rw [HEND.out, Nat.add_sub_cancel_left]; exact HPr.out.drew q
end Go.Proofs.YtohickpkkldmdaaGreatDoor

namespace Go.Proofs.YtohickpkkldmdaaGreatDoor
open Go.RowKit Go.Lib

/-- The number that n digits from k on write. -/
def digV (S : ByteArray) (k : Nat) : Nat → Nat
  | 0 => 0
  | n + 1 => digV S k n * 10 + (atB S (k + n) - 48)
theorem digV_lt {S : ByteArray} {k n : Nat} (h : ∀ i, i < n → isDg (atB S (k + i)) = true) : digV S k n < 10 ^ n := by
  induction n with
  | zero => exact Nat.one_pos
  | succ n ih =>
    have h1 := ih (fun i hi => h i (by omega))
    have h2 := h n (by omega)
    unfold isDg at h2
    simp only [Bool.and_eq_true, decide_eq_true_eq] at h2
    rw [digV, Nat.pow_succ]
    omega
/-- How many digits a width or a precision takes here: at most five. -/
def dgN (S : ByteArray) (k : Nat) : Nat := min 5 (runP isDg S k (S.size - k))
/-- A width or a precision: the number, whether it is a star, where it ends. -/
def amt (S : ByteArray) (k : Nat) : Int × Bool × Nat := if atB S k = 42 then (0, true, k + 1) else ((digV S k (dgN S k) : Nat), false, k + dgN S k)
theorem run_le {p : Nat → Bool} {S : ByteArray} {k f n : Nat} (hn : n ≤ f) (h : ∀ i, i < n → p (atB S (k + i)) = true) : n ≤ runP p S k f := by
  induction f generalizing k n with
  | zero => omega
  | succ f ih =>
    rcases Nat.eq_zero_or_pos n with rfl | h0
    · omega
    · obtain ⟨m, rfl⟩ : ∃ m, n = m + 1 := ⟨n - 1, by omega⟩
      have h1 := h 0 (by omega)
      rw [Nat.add_zero] at h1
      rw [runP, if_pos h1]
      have := ih (k := k + 1) (n := m) (by omega) (fun i hi => by have := h (i + 1) (by omega); rwa [show k + (i + 1) = k + 1 + i by omega] at this)
      omega
theorem dgN_five {S : ByteArray} {k : Nat} (hk : k + 5 ≤ S.size) (h : ∀ i, i < 5 → isDg (atB S (k + i)) = true) : dgN S k = 5 := by
  have := run_le (p := isDg) (S := S) (k := k) (f := S.size - k) (n := 5) (by omega) h
  unfold dgN
  omega
theorem dgN_at {S : ByteArray} {k n : Nat} (hk : k + n ≤ S.size) (hn : n ≤ 5) (h : ∀ i, i < n → isDg (atB S (k + i)) = true) (hs : isDg (atB S (k + n)) = false) : dgN S k = n := by
  unfold dgN
  rw [run_end rfl hk h hs]
  omega
set_option maxRecDepth 100000 in
set_option maxHeartbeats 8000000 in
theorem amount_any (S : ByteArray) (k g : Nat) (w : World) (hk : k ≤ S.size) (hS : S.size ≤ 4611686018427387904) (hR : Rdr w g S k) :
    Calls Tryz.prog 113 #[.pointer (some ⟨g, 0, none⟩)] w fun e w' => e = .returned (.tuple #[.int .i64 (amt S k).1, .bool (amt S k).2.1]) ∧ Rdr w' g S (amt S k).2.2 ∧ Out [g] w w' := by
  have CT := Lib.hid (take_any S k g 42 w hk hS (by decide) hR)
  have CP := Lib.hid (fun (j : Nat) (W : World) (hj : j ≤ S.size) (H : Rdr W g S j) => peek_any S j g W hj hS H)
  obtain ⟨x, hx⟩ : ∃ x, atB S k = x := ⟨_, rfl⟩
  unfold amt
  rw [hx] at CT ⊢
  have HX := Lib.hid hx
  clear hx
  by_cases hs : x = 42
  · subst hs
    have CT := CT.out
    rw [if_pos rfl, decide_eq_true rfl] at CT
    rw [if_pos rfl]
    have CT := Lib.hid CT
    go_enter Tryz.func113, Tryz.ntmps113
    go_wp2_with fail
    refine CT.out.mono ?_
    rintro e w1 ⟨rfl, h1, h2⟩
    have H1 := Lib.hid h1
    clear h1
    go_wp2_with fail
    go_ret2
    exact ⟨rfl, H1.out, h2⟩
  · have CT := CT.out
    rw [if_neg hs, decide_eq_false hs] at CT
    rw [if_neg hs]
    have CT := Lib.hid CT
    clear hs
    go_enter Tryz.func113, Tryz.ntmps113
    go_wp2_with fail
    refine CT.out.mono ?_
    rintro e w1 ⟨rfl, h1, h2⟩
    have H1 := Lib.hid h1
    have HO1 := Lib.hid h2
    clear h1 h2
    go_wp2_with fail
    go_loopw [4, 8] (fun nv cv wr => ∃ i : Nat, i ≤ 5 ∧ nv = .int .i64 (digV S k i : Nat) ∧ cv = .int .i64 (i : Int) ∧ k + i ≤ S.size ∧ Rdr wr g S (k + i) ∧ Out [g] w wr ∧ ∀ j, j < i → isDg (atB S (k + j)) = true) (fun _ cv _ => 5 - (RowKit.intOf cv).toNat)
    case atStart => exact ⟨0, by omega, rfl, rfl, hk, H1.out, HO1.out, fun j hj => absurd hj (Nat.not_lt_zero j)⟩
    case round =>
      obtain ⟨i, hi, rfl, rfl, hn, hRr, hO, hall⟩ := hrel
      obtain ⟨v, hv⟩ : ∃ v, digV S k i = v := ⟨_, rfl⟩
      have hv2 : v < 100000 := by
        have h1 := digV_lt hall
        have h2 : 10 ^ i ≤ 10 ^ 5 := Nat.pow_le_pow_right (by omega) hi
        omega
      rw [hv]
      have HV := Lib.hid hv
      have HALL := Lib.hid hall
      have HRr := Lib.hid hRr
      have HO := Lib.hid hO
      have CQ := Lib.hid (CP.out _ _ hn hRr)
      obtain ⟨x, hx⟩ : ∃ x, atB S (k + i) = x := ⟨_, rfl⟩
      rw [hx] at CQ
      have HX2 := Lib.hid hx
      clear hv hall hRr hO hx CP CT H1 HO1
      have g0 : (0 : Int) ≤ (v : Int) := by omega
      have g1 : (v : Int) ≤ 100000 := by omega
      by_cases hlt : i < 5
      · by_cases hd : isDg x = true
        · have hxb : 48 ≤ x ∧ x ≤ 57 := by unfold isDg at hd; simp only [Bool.and_eq_true, decide_eq_true_eq] at hd; exact hd
          have g2 : (48 : Int) ≤ (x : Int) := by omega
          have g3 : (x : Int) ≤ 57 := by omega
          have hlt2 : k + i < S.size := atB_size (by rw [HX2.out]; omega)
          have hw : wrap64 (((k + i : Nat) : Int) + 1) = ((k + i + 1 : Nat) : Int) := by unfold wrap64; omega
          have hwI : wrap64 ((k : Int) + (i : Int) + 1) = ((k + i + 1 : Nat) : Int) := by unfold wrap64; omega
          have HD := Lib.hid hd
          clear hd hxb
          go_wp2_with fail
          refine CQ.out.mono ?_
          rintro e W1 ⟨rfl, q, rfl⟩
          have c1 := (HRr.out.drew q).cell 1
          have f1 := (HRr.out.drew q).fro 1
          go_wp2_with fail
          go_roundw
          case rel => exact ⟨i + 1, by omega, by rw [digV, HV.out, HX2.out]; congr 1; omega, by go_num, by omega, (show Rdr _ g S (k + i) from HRr.out.drew q).step (k + i + 1), (HO.out.drew q).set (p := ⟨g, 1, none⟩) (by simp) _, fun j hj => by
            rcases Nat.lt_or_ge j i with h2 | h2
            · exact HALL.out j h2
            · obtain rfl : i = j := by omega
              rw [HX2.out]; exact HD.out⟩
          case measure => simp [RowKit.intOf]; omega
        · have hd2 : isDg x = false := by rw [Bool.not_eq_true] at hd; exact hd
          have HE := Lib.hid (dgN_at hn hi HALL.out (by rw [HX2.out]; exact hd2))
          have hcase : x < 48 ∨ (48 ≤ x ∧ 57 < x) := by
            unfold isDg at hd
            simp only [Bool.and_eq_true, decide_eq_true_eq] at hd
            omega
          clear hd hd2
          rcases hcase with h1 | ⟨h1, h2⟩
          all_goals
            go_wp2_with fail
            refine CQ.out.mono ?_
            rintro e W1 ⟨rfl, q, rfl⟩
            go_wp2_with fail
            go_ret2
            exact ⟨by rw [HE.out, HV.out]; rfl, by rw [HE.out]; exact HRr.out.drew q, HO.out.drew q⟩
      · obtain rfl : 5 = i := by omega
        have HE := Lib.hid (dgN_five hn HALL.out)
        go_wp2_with fail
        go_ret2
        exact ⟨by rw [HE.out, HV.out]; rfl, by rw [HE.out]; exact HRr.out, HO.out⟩
end Go.Proofs.YtohickpkkldmdaaGreatDoor

namespace Go.Proofs.YtohickpkkldmdaaGreatDoor
open Go.RowKit Go.Lib

/-- A float is less than 2^53 times the gap above it; and so is the float above it, or as great. -/
theorem gap_up (r : Nat) : V r + U r ≤ 9007199254740992 * U r := by
  unfold V U
  have hz := Nat.pow_pos (n := r / 4503599627370496 - 1) (show 0 < 2 by omega)
  split
  · omega
  · generalize 2 ^ (r / 4503599627370496 - 1) = z at *
    have h : (4503599627370496 + r % 4503599627370496 + 1) * z ≤ 9007199254740992 * z := Nat.mul_le_mul_right _ (by omega)
    rw [Nat.add_mul, Nat.one_mul] at h
    exact h
/-- Seventeen digits or more, nearest to a float, are less than half a gap away from it. -/
theorem sci_close {r p M : Nat} {P : Int} (h0 : 0 < r) (hr : r < 9218868437227405312) (hp : 16 ≤ p) (h : SciOk (amN r) (amD r) p P M) :
    Near (2 * (M * 10 ^ (P - (p : Int)).toNat) * S1074) (10 ^ (-(P - (p : Int))).toNat) r := by
  have hS := S_pos
  have hV := V_am (r := r)
  have hD := amD_pos r
  obtain ⟨k, hk⟩ : ∃ k : Int, (p : Int) - P = k := ⟨_, rfl⟩
  have hv := h.val
  rw [hk] at hv
  have hlow : 10000000000000000 ≤ M := Nat.le_trans (Nat.pow_le_pow_right (n := 10) (by omega) hp) h.low
  rw [show P - (p : Int) = -k by omega, show -(-k) = k by omega]
  have hB : 0 < amD r * 10 ^ (-k).toNat := Nat.mul_pos hD (Nat.pow_pos (by omega))
  have hE : 0 < 10 ^ k.toNat := Nat.pow_pos (by omega)
  obtain ⟨h1, h2⟩ := rnd_near (amN r * 10 ^ k.toNat) (amD r * 10 ^ (-k).toNat) hB
  change _ = rnd (amN r * 10 ^ k.toNat) (amD r * 10 ^ (-k).toNat) at hv
  rw [← hv] at h1 h2
  have h1 := h1.1
  have h2 := (h2 (by omega)).1
  generalize amN r = N at *
  generalize amD r = D at *
  generalize 10 ^ k.toNat = E at *
  generalize 10 ^ (-k).toNat = F at *
  generalize S1074 = S at *
  -- all in the measure of D
  have a1 : V r * E * D = N * E * S := by rw [Nat.mul_right_comm, hV]; ac_rfl
  have a2 : 2 * (M * F) * S * D = 2 * M * (D * F) * S := by ac_rfl
  have b1 : 2 * M * (D * F) * S ≤ 2 * (N * E) * S + D * F * S := by
    rw [← Nat.add_mul]
    refine Nat.mul_le_mul_right _ ?_
    have : 2 * M * (D * F) = (2 * M - 1) * (D * F) + D * F := by rw [← Nat.succ_mul]; congr 1; omega
    omega
  have b2 : 2 * (N * E) * S ≤ 2 * M * (D * F) * S + D * F * S := by
    rw [← Nat.add_mul]
    refine Nat.mul_le_mul_right _ ?_
    have : (2 * M + 1) * (D * F) = 2 * M * (D * F) + D * F := Nat.succ_mul _ _
    omega
  have b3 : 19999999999999999 * (D * F * S) ≤ 2 * (N * E) * S := by
    have : 19999999999999999 * (D * F) ≤ (2 * M - 1) * (D * F) := Nat.mul_le_mul_right _ (by omega)
    rw [← Nat.mul_assoc]
    exact Nat.mul_le_mul_right _ (Nat.le_trans this h2)
  have c1 : 2 * (N * E) * S = 2 * (V r * E * D) := by rw [a1, Nat.mul_assoc]
  rw [c1] at b1 b2 b3
  have hBS : 0 < D * F * S := Nat.mul_pos hB hS
  -- a gap g with V r ≤ 2^53 g is wide enough
  have wide : ∀ g, V r ≤ 9007199254740992 * g → D * F * S < g * E * D := fun g hg => by
    have d1 : V r * E * D ≤ 9007199254740992 * g * E * D := Nat.mul_le_mul_right _ (Nat.mul_le_mul_right _ hg)
    rw [Nat.mul_assoc 9007199254740992, Nat.mul_assoc 9007199254740992] at d1
    omega
  refine near_strict (fun q hq => ?_) ?_ (by omega)
  · refine Nat.lt_of_mul_lt_mul_right (a := D) ?_
    rw [a2]
    have hq2 := V_succ q
    rw [← hq] at hq2
    have hw := wide (U q) (by rw [hq2]; exact gap_up q)
    have e : (V q + V r) * E * D + U q * E * D = 2 * (V r * E * D) := by
      rw [← Nat.add_mul, ← Nat.add_mul, show V q + V r + U q = 2 * V r by omega, Nat.mul_assoc, Nat.mul_assoc, Nat.mul_assoc]
    omega
  · refine Nat.lt_of_mul_lt_mul_right (a := D) ?_
    rw [a2, V_succ r]
    have hw := wide (U r) (by have := gap_up r; omega)
    have e : (V r + (V r + U r)) * E * D = 2 * (V r * E * D) + U r * E * D := by
      rw [← Nat.add_assoc, Nat.add_mul, Nat.add_mul, show V r + V r = 2 * V r by omega, Nat.mul_assoc 2, Nat.mul_assoc 2]
    omega
end Go.Proofs.YtohickpkkldmdaaGreatDoor

namespace Go.Proofs.YtohickpkkldmdaaGreatDoor
open Go.RowKit Go.Lib

/-- A point with the digits behind it, or nothing. -/
def PtOk (pt D2 : List UInt8) : Prop := (pt = [] ∧ D2 = []) ∨ pt = 46 :: D2
theorem numP_text {D1 D2 pt rest : List UInt8} (h1 : Dec D1) (h2 : Dec D2) (hp : PtOk pt D2) (hr : ∀ c t, rest = c :: t → isD c = false ∧ c ≠ 46) : numP (D1 ++ (pt ++ rest)) = (D1, D2, rest) := by
  rcases hp with ⟨rfl, rfl⟩ | rfl
  · obtain ⟨e1, e2⟩ := take_app h1 (tail := rest) (fun c t e => (hr c t e).1)
    rw [List.nil_append, numP_none, e1, e2]
    rw [e2]
    intro h
    cases rest with
    | nil => cases h
    | cons c t => exact (hr c t rfl).2 (Option.some.inj h)
  · obtain ⟨e1, e2⟩ := take_app h1 (tail := 46 :: (D2 ++ rest)) (fun c t e => by rw [← (List.cons.inj e).1]; decide)
    obtain ⟨f1, f2⟩ := take_app h2 (tail := rest) (fun c t e => (hr c t e).1)
    rw [List.cons_append, numP_point e2, e1, f1, f2]
def SgOk (sg : List UInt8) (b : Bool) : Prop := (sg = [] ∧ b = false) ∨ (sg = [43] ∧ b = false) ∨ (sg = [45] ∧ b = true)
theorem expL_text {c x : UInt8} {neg : Bool} {DD tail : List UInt8} (hc : c = 101 ∨ c = 69) (hs : (x = 45 ∧ neg = true) ∨ (x = 43 ∧ neg = false)) (hd : Dec DD) (hne : DD ≠ []) (hk : pv DD < 100000) (ht : ∀ c t, tail = c :: t → isD c = false) :
    expL (c :: x :: (DD ++ tail)) = (if neg = true then -(pv DD : Int) else (pv DD : Int), tail) := by
  obtain ⟨e1, e2⟩ := take_app hd (tail := tail) ht
  have hsg : sgnL (x :: (DD ++ tail)) = (neg, DD ++ tail) := by
    rcases hs with ⟨rfl, rfl⟩ | ⟨rfl, rfl⟩ <;> rfl
  unfold expL
  simp only
  rw [if_pos hc, hsg]
  simp only
  rw [e1, e2, if_neg hne]
  unfold cntZ
  rw [Nat.min_eq_left (by omega), Nat.min_eq_left (by omega)]
theorem expL_size (l : List UInt8) : (expL l).2.length ≤ l.length := (expL_bd l).2.2
theorem digit_head {D1 rest : List UInt8} (h1 : Dec D1) (hne : D1 ≠ []) : ∃ c t, D1 ++ rest = c :: t ∧ isD c = true := by
  cases D1 with
  | nil => exact absurd rfl hne
  | cons c t => exact ⟨c, t ++ rest, rfl, isD_of (h1 c (List.mem_cons_self))⟩
theorem sigL_text {K : Nat} {sg D1 D2 pt rest : List UInt8} {b : Bool} (hs : SgOk sg b) (h1 : Dec D1) (hne : D1 ≠ []) (h2 : Dec D2) (hp : PtOk pt D2) (hr : ∀ c t, rest = c :: t → isD c = false ∧ c ≠ 46) :
    sigL (List.replicate K 32 ++ (sg ++ (D1 ++ (pt ++ rest)))) = (b, D1, D2, (expL rest).1, ((K + sg.length + D1.length + pt.length + rest.length : Nat) : Int) - ((expL rest).2.length : Int)) := by
  have hP := numP_text h1 h2 hp hr
  have hN : numL (D1 ++ (pt ++ rest)) = (D1, D2, (expL rest).1, ((D1 ++ (pt ++ rest)).length : Int) - ((expL rest).2.length : Int)) := by
    rw [numL_yes (by rw [hP]; exact fun h => hne h.1), hP]
  have hl : 0 < D1.length := List.length_pos_iff.2 hne
  have hes := expL_size rest
  have hz : (numL (D1 ++ (pt ++ rest))).2.2.2 ≠ 0 := by
    rw [hN]
    show ((D1 ++ (pt ++ rest)).length : Int) - ((expL rest).2.length : Int) ≠ 0
    simp only [List.length_append]
    omega
  obtain ⟨c, t, hct, hdig⟩ := digit_head (rest := pt ++ rest) h1 hne
  have fin : ∀ {m : List UInt8}, noBlanks (List.replicate K 32 ++ (sg ++ (D1 ++ (pt ++ rest)))) = m → sgnL m = (b, D1 ++ (pt ++ rest)) →
      sigL (List.replicate K 32 ++ (sg ++ (D1 ++ (pt ++ rest)))) = (b, D1, D2, (expL rest).1, ((K + sg.length + D1.length + pt.length + rest.length : Nat) : Int) - ((expL rest).2.length : Int)) := fun e1 e2 => by
    have e := sigL_of e1 e2 hz
    rw [hN] at e
    refine e.trans ?_
    refine Prod.ext rfl (Prod.ext rfl (Prod.ext rfl (Prod.ext rfl ?_)))
    show ((D1 ++ (pt ++ rest)).length : Int) - ((expL rest).2.length : Int) + (((List.replicate K (32 : UInt8) ++ (sg ++ (D1 ++ (pt ++ rest)))).length : Int) - ((D1 ++ (pt ++ rest)).length : Int)) = _
    simp only [List.length_append, List.length_replicate]
    omega
  rcases hs with ⟨rfl, rfl⟩ | ⟨rfl, rfl⟩ | ⟨rfl, rfl⟩
  · refine fin (m := D1 ++ (pt ++ rest)) ?_ ?_
    · rw [noBlanks_rep (by decide), List.nil_append, hct, noBlanks_keep (digit_blank hdig)]
    · rw [hct, sgnL_digit hdig]
  · refine fin (m := 43 :: (D1 ++ (pt ++ rest))) ?_ rfl
    rw [noBlanks_rep (by decide)]
    exact noBlanks_keep (by decide)
  · refine fin (m := 45 :: (D1 ++ (pt ++ rest))) ?_ rfl
    rw [noBlanks_rep (by decide)]
    exact noBlanks_keep (by decide)
theorem looks_text {K : Nat} {sg D1 D2 pt ex tail : List UInt8} {b : Bool} (hs : SgOk sg b) (h1 : Dec D1) (hne : D1 ≠ []) (h2 : Dec D2) (hp : PtOk pt D2) (hr : ∀ c t, ex ++ tail = c :: t → isD c = false ∧ c ≠ 46) (he : (expL (ex ++ tail)).2 = tail) :
    looksL (List.replicate K 32 ++ (sg ++ (D1 ++ (pt ++ (ex ++ tail))))) = (noBlanks tail).isEmpty := by
  unfold looksL
  rw [sigL_text hs h1 hne h2 hp hr, he]
  have hl : 0 < D1.length := List.length_pos_iff.2 hne
  have hz : ((K + sg.length + D1.length + pt.length + (ex ++ tail).length : Nat) : Int) - (tail.length : Int) = ((K + sg.length + D1.length + pt.length + ex.length : Nat) : Int) := by
    rw [List.length_append]
    omega
  simp only
  rw [hz, decide_eq_true (by omega), Bool.true_and, Int.toNat_natCast]
  congr 2
  rw [← List.append_assoc, ← List.append_assoc, ← List.append_assoc, ← List.append_assoc]
  refine List.drop_left' ?_
  simp only [List.length_append, List.length_replicate]
/-- What is cut off at the end is noughts. -/
theorem trim_split (l : List UInt8) (x : UInt8) : ∃ k, l = Lib.trimRightB l x ++ List.replicate k x := by
  have h1 : ∀ c ∈ l.reverse.takeWhile (· == x), c = x := fun c hc => eq_of_beq (List.all_eq_true.1 List.all_takeWhile c hc)
  refine ⟨(l.reverse.takeWhile (· == x)).length, ?_⟩
  have h2 := List.eq_replicate_of_mem h1
  have h3 := List.takeWhile_append_dropWhile (p := (· == x)) (l := l.reverse)
  have h4 := congrArg List.reverse h3
  rw [List.reverse_append, List.reverse_reverse] at h4
  unfold Lib.trimRightB
  have h5 : (l.reverse.takeWhile (· == x)).reverse = List.replicate (l.reverse.takeWhile (· == x)).length x := by
    conv => lhs; rw [h2]
    rw [List.reverse_replicate]
  rw [← h5]
  exact h4.symm
theorem trim_point (A B : List UInt8) (c x : UInt8) (h : c ≠ x) : Lib.trimRightB (A ++ c :: B) x = A ++ c :: Lib.trimRightB B x := by
  unfold Lib.trimRightB
  have hc : (c == x) = false := beq_eq_false_iff_ne.2 h
  rw [List.reverse_append, List.reverse_cons, List.append_assoc, List.dropWhile_append]
  cases hd : (B.reverse.dropWhile (· == x)) with
  | nil => simp [hc]
  | cons d t => simp
theorem trimRightB_last {l : List UInt8} {x : UInt8} : ∀ A, Lib.trimRightB l x ≠ A ++ [x] := by
  intro A e
  unfold Lib.trimRightB at e
  have e2 := congrArg List.reverse e
  rw [List.reverse_reverse, List.reverse_append] at e2
  have h := List.head?_dropWhile_not (· == x) l.reverse
  rw [e2] at h
  simp at h
theorem dec_trimR {l : List UInt8} (h : Dec l) (x : UInt8) : Dec (Lib.trimRightB l x) := by
  obtain ⟨k, hk⟩ := trim_split l x
  rw [hk] at h
  exact (dec_append.1 h).1
theorem suffix_point {D1 T : List UInt8} (hT : Dec T) : ∃ pt, Lib.trimSuffix (D1 ++ 46 :: T) [46] = D1 ++ pt ∧ PtOk pt T := by
  rcases List.eq_nil_or_concat T with rfl | ⟨A, d, rfl⟩
  · refine ⟨[], ?_, Or.inl ⟨rfl, rfl⟩⟩
    have hs : Lib.hasSuffix (D1 ++ [46]) [46] = true := by
      unfold Lib.hasSuffix
      rw [List.isSuffixOf_iff_suffix]
      exact ⟨D1, rfl⟩
    unfold Lib.trimSuffix
    rw [hs, if_pos rfl, List.length_append, List.append_nil]
    exact List.take_left' rfl
  · refine ⟨46 :: (A ++ [d]), ?_, Or.inr (by rw [List.concat_eq_append])⟩
    rw [List.concat_eq_append] at hT ⊢
    have hd := hT d (by simp)
    have hs : Lib.hasSuffix (D1 ++ 46 :: (A ++ [d])) [46] = false := by
      rw [Bool.eq_false_iff]
      intro h
      unfold Lib.hasSuffix at h
      rw [List.isSuffixOf_iff_suffix] at h
      obtain ⟨t, e⟩ := h
      rw [show D1 ++ 46 :: (A ++ [d]) = (D1 ++ 46 :: A) ++ [d] by simp] at e
      have := List.append_inj_right' e rfl
      have hd2 : (46 : UInt8) = d := by simpa using this
      rw [← hd2] at hd
      exact absurd hd.1 (by decide)
    unfold Lib.trimSuffix
    rw [hs]
    rfl
theorem point_trim {D1 D2 : List UInt8} (h2 : Dec D2) : ∃ pt T k, Lib.trimSuffix (Lib.trimRightB (D1 ++ 46 :: D2) 48) [46] = D1 ++ pt ∧ PtOk pt T ∧ D2 = T ++ List.replicate k 48 ∧ Dec T := by
  rw [trim_point _ _ _ _ (by decide)]
  obtain ⟨k, hk⟩ := trim_split D2 48
  obtain ⟨pt, e, hp⟩ := suffix_point (D1 := D1) (dec_trimR h2 48)
  exact ⟨pt, _, k, e, hp, hk, dec_trimR h2 48⟩
end Go.Proofs.YtohickpkkldmdaaGreatDoor

namespace Go.Proofs.YtohickpkkldmdaaGreatDoor
open Go.RowKit Go.Lib

theorem rnd_ratio {A B A' B' : Nat} (hB : 0 < B) (hB' : 0 < B') (h : A * B' = A' * B) : rnd A B = rnd A' B' :=
  Nat.le_antisymm (rnd_mono hB hB' (by omega)) (rnd_mono hB' hB (by omega))
/-- Texts of digits of one length and one number are one text. -/
theorem pv_inj : ∀ {l m : List UInt8}, Dec l → Dec m → l.length = m.length → pv l = pv m → l = m
  | [], [], _, _, _, _ => rfl
  | c :: l, d :: m, hl, hm, hlen, hv => by
    have h1 := hl c (List.mem_cons_self ..)
    have h2 := hm d (List.mem_cons_self ..)
    have hl' : Dec l := fun x hx => hl x (List.mem_cons_of_mem _ hx)
    have hm' : Dec m := fun x hx => hm x (List.mem_cons_of_mem _ hx)
    have hlen' : l.length = m.length := by simpa using hlen
    rw [pv_cons, pv_cons, hlen'] at hv
    have b1 := pv_lt hl'
    have b2 := pv_lt hm'
    rw [hlen'] at b1
    have e := Nat.pow_pos (n := m.length) (show 0 < 10 by omega)
    have hcd : c.toNat - 48 = d.toNat - 48 := by
      have q1 : ((c.toNat - 48) * 10 ^ m.length + pv l) / 10 ^ m.length = c.toNat - 48 := by
        rw [Nat.mul_comm, Nat.mul_add_div e, Nat.div_eq_of_lt b1, Nat.add_zero]
      have q2 : ((d.toNat - 48) * 10 ^ m.length + pv m) / 10 ^ m.length = d.toNat - 48 := by
        rw [Nat.mul_comm, Nat.mul_add_div e, Nat.div_eq_of_lt b2, Nat.add_zero]
      rw [← q1, ← q2, hv]
    have : c = d := UInt8.toNat_inj.1 (by omega)
    subst this
    rw [pv_inj hl' hm' hlen' (by omega)]
theorem pv_split (l : List UInt8) (k : Nat) : pv l = pv (l.take k) * 10 ^ (l.drop k).length + pv (l.drop k) := by
  rw [← pv_append, List.take_append_drop]
theorem decs_pos_len (n : Nat) : 1 ≤ (decs n).length := by rw [← ahead_step, List.length_append]; simp
/-- A text without noughts ahead, but for the last digit, is its number's. -/
theorem decs_strip {l : List UInt8} {i : Nat} (hd : Dec l) (hi : i < l.length) (h0 : ∀ j, j < i → l[j]? = some 48) (h1 : i + 1 = l.length ∨ l[i] ≠ 48) : l.drop i = decs (pv l) := by
  have hv : pv l = pv (l.drop i) := by
    have ht : l.take i = List.replicate i 48 := by
      refine List.eq_replicate_iff.2 ⟨by rw [List.length_take]; omega, fun b hb => ?_⟩
      obtain ⟨j, hj, e⟩ := List.getElem_of_mem hb
      rw [List.length_take] at hj
      rw [List.getElem_take] at e
      have := h0 j (by omega)
      rw [List.getElem?_eq_getElem (by omega)] at this
      rw [← e]
      exact Option.some.inj this
    rw [pv_split l i, ht, pv_zeros, Nat.zero_mul, Nat.zero_add]
  rw [hv]
  have hdd := dec_drop hd i
  have hlen : (l.drop i).length = l.length - i := List.length_drop
  refine pv_inj hdd (dec_decs _) ?_ (pv_decs _).symm
  have hlt := pv_lt hdd
  have h2 : (decs (pv (l.drop i))).length ≤ (l.drop i).length := (decs_le (by omega)).2 hlt
  rcases h1 with h1 | h1
  · have := decs_pos_len (pv (l.drop i)); omega
  · rcases Nat.lt_or_ge (decs (pv (l.drop i))).length (l.drop i).length with h3 | h3
    · exfalso
      have hpos := decs_pos_len (pv (l.drop i))
      have h4 := (decs_le (n := pv (l.drop i)) (k := (l.drop i).length - 1) (by omega)).1 (by omega)
      have he : l.drop i = l[i] :: l.drop (i + 1) := List.drop_eq_getElem_cons hi
      rw [he, pv_cons, List.length_cons, Nat.add_sub_cancel] at h4
      have hb := hd l[i] (List.getElem_mem hi)
      have : 1 ≤ l[i].toNat - 48 := by
        rcases Nat.eq_zero_or_pos (l[i].toNat - 48) with h5 | h5
        · exact absurd (UInt8.toNat_inj.1 (show l[i].toNat = (48 : UInt8).toNat by show _ = 48; omega)) h1
        · exact h5
      have h6 : 1 * 10 ^ (l.drop (i + 1)).length ≤ (l[i].toNat - 48) * 10 ^ (l.drop (i + 1)).length := Nat.mul_le_mul_right _ this
      omega
    · omega
/-- The text that Fixed writes, out of any digits that are long enough. -/
theorem fix_strip {l : List UInt8} {i k p : Nat} (hd : Dec l) (hk : l.length = k + p) (hi : i < k) (h0 : ∀ j, j < i → l[j]? = some 48) (h1 : i + 1 = k ∨ l[i]? ≠ some 48) :
    fixT (decs (pv l)) p = if p = 0 then (l.take k).drop i else (l.take k).drop i ++ 46 :: l.drop k := by
  have hlt : (l.take k).length = k := by rw [List.length_take]; omega
  have hs : (l.take k).drop i = decs (pv (l.take k)) := by
    refine decs_strip (dec_take hd k) (by omega) (fun j hj => by rw [List.getElem?_take_of_lt (by omega)]; exact h0 j hj) ?_
    rcases h1 with h1 | h1
    · exact Or.inl (by omega)
    · refine Or.inr (fun e => h1 ?_)
      rw [List.getElem_take] at e
      rw [List.getElem?_eq_getElem (by omega), e]
  by_cases hp : p = 0
  · subst hp
    rw [if_pos rfl, fixT, if_pos rfl, hs, List.take_of_length_le (by omega)]
  · rw [if_neg hp, fixT, if_neg hp, hs]
    have hsp := pv_split l k
    have hdl : (l.drop k).length = p := by rw [List.length_drop]; omega
    rw [hdl] at hsp
    have hb := pv_lt (dec_drop hd k)
    rw [hdl] at hb
    have e10 := Nat.pow_pos (n := p) (show 0 < 10 by omega)
    have key : padT (decs (pv l)) p = decs (pv (l.take k)) ++ l.drop k := by
      have hdp : Dec (padT (decs (pv l)) p) := dec_append.2 ⟨dec_noughts _, dec_decs _⟩
      have hdr : Dec (decs (pv (l.take k)) ++ l.drop k) := dec_append.2 ⟨dec_decs _, dec_drop hd k⟩
      refine pv_inj hdp hdr ?_ ?_
      · rw [padT, List.length_append, List.length_replicate, List.length_append, hdl]
        have a1 := decs_pos_len (pv (l.take k))
        generalize hw : pv (l.take k) = wv at *
        obtain ⟨L, hL⟩ : ∃ L, (decs wv).length = L := ⟨_, rfl⟩
        rw [hL] at a1 ⊢
        rcases Nat.eq_zero_or_pos wv with h0 | h0
        · subst h0
          have : L = 1 := by rw [← hL]; rfl
          have h2 : (decs (pv l)).length ≤ p := (decs_le (by omega)).2 (by omega)
          omega
        · -- exact length
          have u1 := (decs_le (n := wv) (k := L) a1).1 (by omega)
          have u2 : (decs (pv l)).length ≤ L + p := (decs_le (by omega)).2 (by
            rw [hsp, Nat.pow_add]
            have : (wv + 1) * 10 ^ p ≤ 10 ^ L * 10 ^ p := Nat.mul_le_mul_right _ (by omega)
            rw [Nat.add_mul] at this
            omega)
          have u3 : L + p ≤ (decs (pv l)).length := by
            rcases Nat.lt_or_ge (decs (pv l)).length (L + p) with h3 | h3
            · exfalso
              have h4 := (decs_le (n := pv l) (k := L + p - 1) (by omega)).1 (by omega)
              rcases Nat.eq_zero_or_pos (L - 1) with h5 | h5
              · rw [show L + p - 1 = p by omega, hsp] at h4
                have : 1 * 10 ^ p ≤ wv * 10 ^ p := Nat.mul_le_mul_right _ h0
                omega
              · have h6 : ¬ wv < 10 ^ (L - 1) := fun h => by
                  have := (decs_le (n := wv) (k := L - 1) h5).2 h
                  omega
                rw [show L + p - 1 = (L - 1) + p by omega, Nat.pow_add, hsp] at h4
                have : 10 ^ (L - 1) * 10 ^ p ≤ wv * 10 ^ p := Nat.mul_le_mul_right _ (by omega)
                omega
            · exact h3
          omega
      · rw [padT, pv_noughts, pv_decs, pv_append, pv_decs, hdl]
        exact hsp
    rw [key, List.length_append, hdl, Nat.add_sub_cancel, List.take_left', List.drop_left'] <;> rfl
end Go.Proofs.YtohickpkkldmdaaGreatDoor

namespace Go.Proofs.YtohickpkkldmdaaGreatDoor
open Go.RowKit Go.Lib

theorem cut_even {n j : Nat} (hj : j ≤ n.log2 + 2) : Ieee.Toward.even.cut false n j = rnd n (2 ^ j) := by
  unfold Ieee.Toward.cut rnd
  simp only [Nat.min_eq_left hj, Nat.one_shiftLeft]
  generalize 2 ^ j = D
  by_cases h : D < 2 * (n % D) ∨ (2 * (n % D) = D ∧ n / D % 2 = 1)
  · rw [if_pos h]
    have e : (decide (D < 2 * (n % D)) || (D == 2 * (n % D) && n / D % 2 == 1)) = true := by
      rcases h with h | ⟨h1, h2⟩
      · rw [decide_eq_true h]; rfl
      · rw [h2, h1]; simp
    rw [e]
    rfl
  · rw [if_neg h]
    have e : (decide (D < 2 * (n % D)) || (D == 2 * (n % D) && n / D % 2 == 1)) = false := by
      rw [Bool.or_eq_false_iff]
      refine ⟨decide_eq_false fun h1 => h (Or.inl h1), ?_⟩
      rw [Bool.and_eq_false_iff]
      by_cases h1 : D = 2 * (n % D)
      · right
        rw [beq_eq_false_iff_ne]
        exact fun h2 => h (Or.inr ⟨h1.symm, h2⟩)
      · left
        rw [beq_eq_false_iff_ne]
        exact h1
    rw [e]
    rfl
theorem near_big {n p : Nat} (hp : n.log2 = p + 52) (h0 : 0 < n) : Ieee.double.nearest false n 0 = min ((p + 1074) * 4503599627370496 + rnd n (2 ^ p)) 9218868437227405312 := by
  have hlast : max ((0 : Int) + (n.log2 : Int) - ((52 : Nat) : Int)) (-1074) = (p : Int) := by omega
  unfold Ieee.Format.nearest
  rw [if_neg (by omega)]
  simp only [dbl_frac, dbl_least, dbl_binade, dbl_inf, hlast]
  rw [show ((0 : Int) - (p : Int)).toNat = 0 by omega, show ((p : Int) - 0).toNat = p by omega, Nat.shiftLeft_zero, cut_even (by omega), show ((p : Int) - -1074).toNat = p + 1074 by omega, word_pos]
theorem rdM_one (n p : Nat) : rdM n 1 (p : Int) = rnd n (2 ^ p) := by
  unfold rdM rdA rdB
  rw [show (-(p : Int)).toNat = 0 by omega, Int.toNat_natCast, Nat.pow_zero, Nat.mul_one, Nat.one_mul]
theorem rnd_next {n D : Nat} (hD : 0 < D) (hq : n / D = 9007199254740991) (h : rnd n D = 9007199254740992) : rnd n (D * 2) = 4503599627370496 := by
  have h1 : n / (D * 2) = 4503599627370495 := by rw [← Nat.div_div_eq_div_mul, hq]
  have h2 : n % (D * 2) = n % D + D := by rw [Nat.mod_mul, hq]; omega
  have h3 : 0 < n % D := by
    rcases Nat.eq_zero_or_pos (n % D) with h0 | h0
    · exfalso
      unfold rnd at h
      rw [h0, if_neg (by omega), hq] at h
      omega
    · exact h0
  unfold rnd
  rw [h1, h2, if_pos (by left; omega)]
/-- A natural as a float is the nearest one. -/
theorem float_near {n : Nat} : Near (2 * n * S1074) 1 (floatOfInt .f64 (n : Int)) := by
  rcases Nat.lt_or_ge n 9007199254740992 with h | h
  · rw [float_nat h]
    have h1 := Near.self (r := fw n) (by have := fw_bd h; omega)
    rwa [fw_V h, ← Nat.mul_assoc] at h1
  · have e : floatOfInt .f64 (n : Int) = Ieee.double.nearest false n 0 := by
      show Ieee.double.write (.number (decide ((n : Int) < 0)) ((n : Int)).natAbs 0) = _
      rw [show decide ((n : Int) < 0) = false from decide_eq_false (by omega), Int.natAbs_natCast]
      rfl
    obtain ⟨b1, b2⟩ := log2_bd (show 0 < n by omega)
    have hL : 52 < n.log2 := by
      have h3 : 2 ^ 53 < 2 ^ (n.log2 + 1) := Nat.lt_of_le_of_lt h b2
      have := (Nat.pow_lt_pow_iff_right (show 1 < 2 by omega)).1 h3
      omega
    obtain ⟨p, hp⟩ : ∃ p, n.log2 = p + 52 := ⟨n.log2 - 52, by omega⟩
    rw [hp] at b1 b2
    have hD : 0 < 2 ^ p := Nat.pow_pos (by omega)
    rw [Nat.pow_add] at b1
    rw [show p + 52 + 1 = p + 53 by omega, Nat.pow_add] at b2
    have hq1 : n / 2 ^ p < 9007199254740992 := by
      rw [Nat.div_lt_iff_lt_mul hD, Nat.mul_comm]
      exact b2
    have hr := rnd_le n (2 ^ p)
    rw [e, near_big hp (by omega)]
    by_cases hc : rnd n (2 ^ p) < 9007199254740992
    · have hl : Low n 1 (p : Int) := by
        right
        unfold rdA rdB
        rw [show (-(p : Int)).toNat = 0 by omega, Int.toNat_natCast, Nat.pow_zero, Nat.mul_one, Nat.one_mul]
        have h5 : 18014398509481983 * 2 ^ p ≤ 4 * (2 ^ p * 2 ^ 52) := by
          rw [Nat.mul_comm (2 ^ p), ← Nat.mul_assoc]
          exact Nat.mul_le_mul_right _ (by decide)
        exact Nat.le_trans h5 (Nat.mul_le_mul_left _ b1)
      have hn := read_near (N := n) (D := 1) (p := (p : Int)) (by omega) (by omega) (by rw [rdM_one]; exact hc) hl
      rw [rdM_one, show ((p : Int) + 1074).toNat = p + 1074 by omega] at hn
      exact hn
    · have hrr : rnd n (2 ^ p) = 9007199254740992 := by omega
      have hqq : n / 2 ^ p = 9007199254740991 := by omega
      have hnx := rnd_next hD hqq hrr
      have e1 : ((p : Int) + 1) = ((p + 1 : Nat) : Int) := by omega
      have hM : rdM n 1 ((p : Int) + 1) = 4503599627370496 := by rw [e1, rdM_one, Nat.pow_succ]; exact hnx
      have hl : Low n 1 ((p : Int) + 1) := low_next (by omega) (by rw [show (p : Int) + 1 - 1 = (p : Int) by omega, rdM_one, hrr]; exact Nat.le_refl _)
      have hn := read_near (N := n) (D := 1) (p := (p : Int) + 1) (by omega) (by omega) (by rw [hM]; omega) hl
      rw [hM, show ((p : Int) + 1 + 1074).toNat = p + 1075 by omega] at hn
      rw [hrr, show (p + 1074) * 4503599627370496 + 9007199254740992 = (p + 1075) * 4503599627370496 + 4503599627370496 by omega]
      exact hn
theorem take_more {D tail : List UInt8} (hD : Dec D) : (D ++ tail).takeWhile isD = D ++ tail.takeWhile isD ∧ (D ++ tail).dropWhile isD = tail.dropWhile isD := by
  induction D with
  | nil => exact ⟨rfl, rfl⟩
  | cons d D ih =>
    have h := isD_of (hD d (List.mem_cons_self))
    have hi := ih (fun c hc => hD c (List.mem_cons_of_mem _ hc))
    rw [List.cons_append, List.takeWhile_cons, List.dropWhile_cons, h]
    exact ⟨by rw [if_pos rfl, hi.1, List.cons_append], by rw [if_pos rfl, hi.2]⟩
theorem numL_ge {D tail : List UInt8} (hD : Dec D) (hne : D ≠ []) : (D.length : Int) ≤ (numL (D ++ tail)).2.2.2 := by
  obtain ⟨h1, h2⟩ := take_more (tail := tail) hD
  have hs := (List.dropWhile_suffix (l := tail) isD).length_le
  have hP1 : (numP (D ++ tail)).1 = D ++ tail.takeWhile isD := by
    rw [← h1]
    unfold numP
    split <;> rfl
  have hP2 : (numP (D ++ tail)).2.2.length ≤ tail.length := by
    unfold numP
    split
    · rename_i r e
      rw [h2] at e
      rw [e, List.length_cons] at hs
      have := (List.dropWhile_suffix (l := r) isD).length_le
      show (r.dropWhile isD).length ≤ _
      omega
    · show ((D ++ tail).dropWhile isD).length ≤ _
      rw [h2]
      exact hs
  rw [numL_yes (by
    rw [hP1]
    intro h
    exact hne (List.append_eq_nil_iff.1 h.1).1)]
  show (D.length : Int) ≤ ((D ++ tail).length : Int) - ((expL (numP (D ++ tail)).2.2).2.length : Int)
  have hx := (expL_bd (numP (D ++ tail)).2.2).2.2
  rw [List.length_append]
  omega
/-- Four texts with one numeral. -/
theorem four_sigs {D tail : List UInt8} {X1 X2 : List UInt8} {xe z : Int} (hD : Dec D) (hne : D ≠ []) (hX : numL (D ++ tail) = (X1, X2, xe, z)) :
    sigL (D ++ tail) = (false, X1, X2, xe, z) ∧ sigL (45 :: (D ++ tail)) = (true, X1, X2, xe, z + 1) ∧ sigL (32 :: 10 :: 9 :: (D ++ tail)) = (false, X1, X2, xe, z + 3) ∧ sigL (43 :: (D ++ tail)) = (false, X1, X2, xe, z + 1) := by
  have hge := numL_ge (tail := tail) hD hne
  rw [hX] at hge
  have hp : 0 < D.length := List.length_pos_iff.2 hne
  obtain ⟨c, t, hc⟩ : ∃ c t, D = c :: t := by
    cases D with
    | nil => exact absurd rfl hne
    | cons c t => exact ⟨c, t, rfl⟩
  have hdig : isD c = true := isD_of (hD c (by rw [hc]; exact List.mem_cons_self))
  have hnb : noBlanks (D ++ tail) = D ++ tail := by rw [hc, List.cons_append, noBlanks_keep (digit_blank hdig)]
  have hsg : sgnL (D ++ tail) = (false, D ++ tail) := by rw [hc, List.cons_append, sgnL_digit hdig]
  have hz : (numL (D ++ tail)).2.2.2 ≠ 0 := by
    rw [hX]
    show z ≠ 0
    have : (D.length : Int) ≤ z := hge
    omega
  have a := sigL_of hnb hsg hz
  have b := sigL_of (l := 45 :: (D ++ tail)) (m := 45 :: (D ++ tail)) (r := D ++ tail) (b := true) (noBlanks_keep (by decide)) rfl hz
  have d := sigL_of (l := 32 :: 10 :: 9 :: (D ++ tail)) (m := D ++ tail) (r := D ++ tail) (b := false) (by rw [noBlanks_step (by decide), noBlanks_step (by decide), noBlanks_step (by decide), hnb]) hsg hz
  have f := sigL_of (l := 43 :: (D ++ tail)) (m := 43 :: (D ++ tail)) (r := D ++ tail) (b := false) (noBlanks_keep (by decide)) rfl hz
  rw [hX] at a b d f
  refine ⟨a.trans ?_, b.trans ?_, d.trans ?_, f.trans ?_⟩ <;> refine Prod.ext rfl (Prod.ext rfl (Prod.ext rfl (Prod.ext rfl ?_)))
  · show z + (((D ++ tail).length : Int) - ((D ++ tail).length : Int)) = z
    omega
  · show z + (((45 :: (D ++ tail)).length : Int) - ((D ++ tail).length : Int)) = z + 1
    rw [List.length_cons]; omega
  · show z + (((32 :: 10 :: 9 :: (D ++ tail)).length : Int) - ((D ++ tail).length : Int)) = z + 3
    rw [List.length_cons, List.length_cons, List.length_cons]; omega
  · show z + (((43 :: (D ++ tail)).length : Int) - ((D ++ tail).length : Int)) = z + 1
    rw [List.length_cons]; omega
end Go.Proofs.YtohickpkkldmdaaGreatDoor

namespace Go.Proofs.YtohickpkkldmdaaGreatDoor
open Go.RowKit Go.Lib

def isH (c : UInt8) : Bool := hexB c.toNat
theorem hexV_lt (c : Nat) : hexB c = true → hexV c < 16 := by
  unfold hexB hexV
  intro h
  rw [bne_iff_ne] at h
  split at h <;> rename_i h1
  · rw [if_pos h1]; omega
  · rw [if_neg h1]
    split at h <;> rename_i h2
    · rw [if_pos h2]; omega
    · rw [if_neg h2]
      split at h <;> rename_i h3
      · rw [if_pos h3]; omega
      · exact absurd rfl h
theorem hexR_lt (c : Nat) : hexR c < 16 := by
  unfold hexR
  split
  · omega
  · rename_i h
    exact hexV_lt c (by unfold hexB; rw [bne_iff_ne]; exact h)
def hvl (l : List UInt8) : Nat := l.foldl (fun a c => a * 16 + hexR c.toNat) 0
theorem hvl_snoc (l : List UInt8) (c : UInt8) : hvl (l ++ [c]) = hvl l * 16 + hexR c.toNat := by unfold hvl; rw [List.foldl_append]; rfl
theorem hvl_lt : ∀ (k : Nat) (l : List UInt8), l.length = k → hvl l < 16 ^ k
  | 0, l, h => by rw [List.length_eq_zero_iff.1 h]; exact Nat.one_pos
  | k + 1, l, h => by
    obtain ⟨m, c, rfl⟩ : ∃ m c, l = m ++ [c] := ⟨l.dropLast, l.getLast (by intro e; rw [e] at h; cases h), (List.dropLast_concat_getLast _).symm⟩
    rw [List.length_append] at h
    have := hvl_lt k m (by simpa using h)
    have := hexR_lt c.toNat
    rw [hvl_snoc, Nat.pow_succ]
    omega
theorem takeWhile_at {α : Type} {p : α → Bool} {l : List α} {k : Nat} (hk : k ≤ l.length) (h : ∀ j (hj : j < l.length), j < k → p l[j] = true) (hs : ∀ hj : k < l.length, p l[k] = false) : l.takeWhile p = l.take k := by
  induction l generalizing k with
  | nil => simp
  | cons c l ih =>
    rcases Nat.eq_zero_or_pos k with rfl | hk0
    · have := hs (by simp)
      simp only [List.getElem_cons_zero] at this
      rw [List.takeWhile_cons, this]
      rfl
    · obtain ⟨k, rfl⟩ : ∃ m, k = m + 1 := ⟨k - 1, by omega⟩
      have hc := h 0 (by simp) (by omega)
      simp only [List.getElem_cons_zero] at hc
      have := ih (k := k) (by simpa using hk) (fun j hj hjk => by have := h (j + 1) (by simpa using hj) (by omega); simpa using this) (fun hj => by have := hs (by simpa using hj); simpa using this)
      rw [List.takeWhile_cons, hc, List.take_succ_cons, this]
      rfl
/-- The digits of base sixteen that a text has behind 0x. -/
def hexP (l : List UInt8) : List UInt8 :=
  match l with
  | a :: c :: t => if a = 48 ∧ (c = 120 ∨ c = 88) then (t.take 13).takeWhile isH else []
  | _ => []
theorem hexP_short {l : List UInt8} (h : l.length < 2) : hexP l = [] := by
  unfold hexP
  split
  · simp at h; omega
  · rfl
theorem hexP_len (l : List UInt8) : (hexP l).length ≤ 13 ∧ (hexP l).length + 2 ≤ max l.length 2 := by
  unfold hexP
  split
  · split
    · rename_i a c t h
      have h1 := (List.takeWhile_prefix isH (l := t.take 13)).length_le
      rw [List.length_take] at h1
      simp only [List.length_cons]
      omega
    · exact ⟨by simp, by simp⟩
  · exact ⟨by simp, by simp; omega⟩
/-- The float and the bytes of a number of base sixteen. -/
def hexF (l : List UInt8) : Nat := if hexP l = [] then 0 else fw (hvl (hexP l))
def hexS (l : List UInt8) : Nat := if hexP l = [] then 0 else 2 + (hexP l).length
def HexEnd (w : World) (l : List UInt8) (e : Ending) (w' : World) : Prop := e = .returned (.tuple #[.float .f64 (hexF l), .int .i64 (hexS l : Nat)]) ∧ w = w'
theorem or_hex (n d : Nat) (hn : n < 1152921504606846976) (hd : d < 16) : bits .or .u64 ((n : Int) * 16) (d : Int) = (n : Int) * 16 + (d : Int) := by
  have h := u64_or_nat (n * 16) d (by omega) (by omega)
  rw [show n * 16 ||| d = n * 16 + d from or_low (k := 4) hd] at h
  rw [Int.natCast_mul, Int.natCast_add, Int.natCast_mul] at h
  exact h
theorem hexP_at {t : List UInt8} {a c : UInt8} {k : Nat} (ha : a = 48) (hc : c = 120 ∨ c = 88) (hk : k ≤ t.length) (h13 : k ≤ 13) (h : ∀ j (hj : j < t.length), j < k → isH t[j] = true) (hs : k = 13 ∨ ∀ hj : k < t.length, isH t[k] = false) : hexP (a :: c :: t) = t.take k := by
  show (if a = 48 ∧ (c = 120 ∨ c = 88) then (t.take 13).takeWhile isH else []) = _
  rw [if_pos ⟨ha, hc⟩, takeWhile_at (k := k) (by rw [List.length_take]; omega) (fun j hj hjk => by
    rw [List.getElem_take]
    exact h j (by rw [List.length_take] at hj; omega) hjk) (fun hj => by
    rw [List.getElem_take]
    rw [List.length_take] at hj
    rcases hs with hs | hs
    · omega
    · exact hs (by omega)), List.take_take, Nat.min_eq_left h13]
theorem hex_ends {l d : List UInt8} {k : Nat} (h : hexP l = d) (hd : d.length = k) : hexF l = (if k = 0 then 0 else fw (hvl d)) ∧ hexS l = (if k = 0 then 0 else 2 + k) := by
  unfold hexF hexS
  rw [h]
  by_cases h0 : k = 0
  · rw [if_pos h0, if_pos h0, if_pos (List.length_eq_zero_iff.1 (by omega)), if_pos (List.length_eq_zero_iff.1 (by omega))]
    exact ⟨rfl, rfl⟩
  · have hn : ¬ d = [] := by intro e; rw [e] at hd; exact h0 hd.symm
    rw [if_neg h0, if_neg h0, if_neg hn, if_neg hn, hd]
    exact ⟨rfl, rfl⟩
set_option maxRecDepth 100000 in
set_option maxHeartbeats 1000000 in
theorem cutHex_no (s : ByteArray) (w : World) (hs : s.size ≤ 4611686018427387904) (h : ¬ (2 ≤ s.size ∧ s.data.toList[0]? = some 48 ∧ (s.data.toList[1]? = some 120 ∨ s.data.toList[1]? = some 88))) :
    Calls Tryz.prog 96 #[.string s] w (HexEnd w s.data.toList) := by
  obtain ⟨l, hl⟩ : ∃ l, s.data.toList = l := ⟨_, rfl⟩
  have hlen : l.length = s.size := by rw [← hl, ba_len]
  rw [hl] at h ⊢
  have hP : hexP l = [] := by
    by_cases h2 : l.length < 2
    · exact hexP_short h2
    · match l, h, hlen with
      | a :: c :: t, h, hlen =>
        show (if a = 48 ∧ (c = 120 ∨ c = 88) then _ else _) = _
        rw [if_neg]
        rintro ⟨rfl, hc⟩
        refine h ⟨by omega, rfl, ?_⟩
        rcases hc with rfl | rfl
        · exact Or.inl rfl
        · exact Or.inr rfl
      | [_], _, _ => simp at h2
      | [], _, _ => simp at h2
  have HE := Lib.hid (hex_ends hP rfl)
  by_cases h2 : s.size < 2
  · have h2i : (s.size : Int) < 2 := by omega
    clear h hl hlen hP
    go_enter Tryz.func96, Tryz.ntmps96
    go_wp2_with fail
    go_ret2
    exact ⟨by rw [HE.out.1, HE.out.2]; rfl, rfl⟩
  · have h2i : ¬ (s.size : Int) < 2 := by omega
    have hs0 : 0 < s.size := by omega
    have hs1 : 1 < s.size := by omega
    obtain ⟨z0, hz0⟩ : ∃ z, (s[0]'hs0).toNat = z := ⟨_, rfl⟩
    obtain ⟨z1, hz1⟩ : ∃ z, (s[1]'hs1).toNat = z := ⟨_, rfl⟩
    have hb0 := ba_byte s hl 0 hs0
    have hb1 := ba_byte s hl 1 hs1
    have hzi0 : (((s[0]'hs0).toNat : Nat) : Int) = (z0 : Int) := by omega
    have hzi1 : (((s[1]'hs1).toNat : Nat) : Int) = (z1 : Int) := by omega
    by_cases hc0 : z0 = 48
    · have hn1 : ¬ z1 = 120 ∧ ¬ z1 = 88 := by
        constructor
        · intro e
          refine h ⟨by omega, ?_, Or.inl ?_⟩
          · rw [hb0]; exact congrArg some (UInt8.toNat_inj.1 (by rw [hz0, hc0]; rfl))
          · rw [hb1]; exact congrArg some (UInt8.toNat_inj.1 (by rw [hz1, e]; rfl))
        · intro e
          refine h ⟨by omega, ?_, Or.inr ?_⟩
          · rw [hb0]; exact congrArg some (UInt8.toNat_inj.1 (by rw [hz0, hc0]; rfl))
          · rw [hb1]; exact congrArg some (UInt8.toNat_inj.1 (by rw [hz1, e]; rfl))
      have g0 : ((z0 : Int) != 48) = false := by rw [bne_eq_false_iff_eq]; omega
      have g1 : ((z1 : Int) != 120) = true := by rw [bne_iff_ne]; omega
      have g2 : ((z1 : Int) != 88) = true := by rw [bne_iff_ne]; omega
      clear h hl hlen hP hz0 hz1 hb0 hb1 hc0 hn1
      go_enter Tryz.func96, Tryz.ntmps96
      go_wp2_with fail
      go_ret2
      exact ⟨by rw [HE.out.1, HE.out.2]; rfl, rfl⟩
    · have g0 : ((z0 : Int) != 48) = true := by rw [bne_iff_ne]; omega
      clear h hl hlen hP hz0 hz1 hb0 hb1 hc0
      go_enter Tryz.func96, Tryz.ntmps96
      go_wp2_with fail
      go_ret2
      exact ⟨by rw [HE.out.1, HE.out.2]; rfl, rfl⟩
set_option maxRecDepth 100000 in
set_option maxHeartbeats 2000000 in
theorem cutHex_yes (s : ByteArray) (w : World) (hs : s.size ≤ 4611686018427387904) (a c : UInt8) (t : List UInt8) (hl : s.data.toList = a :: c :: t) (ha : a = 48) (hc : c = 120 ∨ c = 88) :
    Calls Tryz.prog 96 #[.string s] w (HexEnd w (a :: c :: t)) := by
  have hlen : t.length + 2 = s.size := by rw [← ba_len, hl]; rfl
  have h2i : ¬ (s.size : Int) < 2 := by omega
  have hs0 : 0 < s.size := by omega
  have hs1 : 1 < s.size := by omega
  have hb0 := Option.some.inj (ba_byte s hl 0 hs0)
  have hb1 := Option.some.inj (ba_byte s hl 1 hs1)
  have hzi0 : (((s[0]'hs0).toNat : Nat) : Int) = 48 := by rw [← hb0]; show ((a.toNat : Nat) : Int) = 48; rw [ha]; rfl
  obtain ⟨z1, hz1⟩ : ∃ z, c.toNat = z := ⟨_, rfl⟩
  have hzi1 : (((s[1]'hs1).toNat : Nat) : Int) = (z1 : Int) := by rw [← hb1]; show ((c.toNat : Nat) : Int) = _; rw [hz1]
  have hZ : ((z1 : Int) != 120) = false ∨ (((z1 : Int) != 120) = true ∧ ((z1 : Int) != 88) = false) := by
    rcases hc with h | h
    · left; rw [bne_eq_false_iff_eq, ← hz1, h]; rfl
    · right; rw [bne_iff_ne, bne_eq_false_iff_eq, ← hz1, h]; decide
  have HBY := Lib.hid (fun j (hj : j < s.size) => ba_byte s hl j hj)
  have HLEN := Lib.hid hlen
  have HP := Lib.hid (fun k hk h13 h hs => hexP_at (t := t) (k := k) ha hc hk h13 h hs)
  clear hl hlen ha hc hb0 hb1 hz1
  rcases hZ with g1 | ⟨g1, g2⟩
  all_goals
    go_enter Tryz.func96, Tryz.ntmps96
    go_wp2_with fail
    go_loop [4, 5] (fun nv iv => ∃ k n : Nat, iv = .int .i64 ((2 + k : Nat) : Int) ∧ nv = .int .u64 (n : Int) ∧ k ≤ 13 ∧ k ≤ t.length ∧ n = hvl (t.take k) ∧ ∀ j (hj : j < t.length), j < k → isH t[j] = true) (fun _ iv => 15 - (RowKit.intOf iv).toNat)
    case atStart => exact ⟨0, 0, rfl, rfl, by omega, by omega, rfl, fun j _ hj => absurd hj (Nat.not_lt_zero j)⟩
    case round =>
      obtain ⟨k, n, rfl, rfl, hk13, hkl, hn, h0⟩ := hrel
      have hn2 : n < 16 ^ k := by rw [hn]; exact hvl_lt k _ (by rw [List.length_take]; omega)
      have hn3 : n < 4503599627370496 := Nat.lt_of_lt_of_le hn2 (Nat.le_trans (Nat.pow_le_pow_right (by omega) hk13) (by decide))
      have H0 := Lib.hid h0
      have HN := Lib.hid hn
      have HFIN := Lib.hid (fun (hstop : k = 13 ∨ ∀ hj : k < t.length, isH t[k] = false) => hex_ends (k := k) (HP.out k hkl hk13 h0 hstop) (by rw [List.length_take]; omega))
      clear h0 hn hn2
      obtain ⟨m, hm⟩ : ∃ m, 2 + k = m := ⟨_, rfl⟩
      have hmi : ((2 + k : Nat) : Int) = (m : Int) := by rw [hm]
      have hls := HLEN.out
      by_cases hgo : k < 13 ∧ k < t.length
      · obtain ⟨hg1, hg2⟩ := hgo
        have hms : m < s.size := by omega
        have hm15 : m < 15 := by omega
        obtain ⟨z, hz⟩ : ∃ z, (s[m]'hms).toNat = z := ⟨_, rfl⟩
        have hzi : (((s[m]'hms).toNat : Nat) : Int) = (z : Int) := by rw [hz]
        have hzb : z < 256 := by rw [← hz]; exact UInt8.toNat_lt _
        have htk : t[k] = s[m]'hms := by
          have h := HBY.out m hms
          have e : (a :: c :: t)[m]? = t[k]? := by
            rw [show m = k + 1 + 1 by omega]
            rfl
          rw [e, List.getElem?_eq_getElem hg2] at h
          exact Option.some.inj h
        have hmin : min (s.size : Int) 15 = 15 ∨ min (s.size : Int) 15 = (s.size : Int) := by omega
        have cH := fun W => hexDigit_any z W hzb
        have hrl := hexR_lt z
        obtain ⟨d, hd⟩ : ∃ d, hexR z = d := ⟨_, rfl⟩
        obtain ⟨b, hbb⟩ : ∃ b, hexB z = b := ⟨_, rfl⟩
        rw [hd, hbb] at cH
        rw [hd] at hrl
        have hor := or_hex n d (by omega) hrl
        have CH := Lib.hid cH
        have hlt : (m : Int) < min (s.size : Int) 15 := by omega
        cases b with
        | true =>
          have HS := Lib.hid (show isH t[k] = true ∧ n * 16 + d = hvl (t.take (k + 1)) by
            refine ⟨?_, ?_⟩
            · unfold isH; rw [htk, hz]; exact hbb
            · have e : t.take (k + 1) = t.take k ++ [t[k]] := List.take_succ_eq_append_getElem hg2
              rw [e, hvl_snoc, htk, hz, hd, ← HN.out])
          have hm' : (m : Int) + 1 = ((2 + (k + 1) : Nat) : Int) := by omega
          have HM' := Lib.hid hm'
          clear hz htk cH hd hbb hmin hm'
          rw [hmi]
          clear hmi hm
          go_wp2_with fail
          refine (CH.out _).mono ?_
          rintro e w' ⟨rfl, rfl⟩
          go_wp2_with fail
          go_round
          case rel => exact ⟨k + 1, n * 16 + d, by rw [HM'.out], by rw [Int.natCast_add, Int.natCast_mul]; rfl, by omega, by omega, HS.out.2, fun j hj hjk => by
            rcases Nat.lt_or_ge j k with h | h
            · exact H0.out j hj h
            · obtain rfl : j = k := by omega
              exact HS.out.1⟩
          case measure => simp [RowKit.intOf]; omega
        | false =>
          have HE := Lib.hid (HFIN.out (Or.inr fun _ => by unfold isH; rw [htk, hz]; exact hbb))
          clear hz htk cH hd hbb hmin
          by_cases hk0 : k = 0
          · subst hk0
            obtain rfl : m = 2 := by omega
            rw [if_pos rfl, if_pos rfl] at HE
            rw [hmi]
            clear hmi hm
            go_wp2_with fail
            refine (CH.out _).mono ?_
            rintro e w' ⟨rfl, rfl⟩
            go_wp2_with fail
            go_ret2
            exact ⟨by rw [HE.out.1, HE.out.2]; rfl, rfl⟩
          · have g3 : ((m : Int) == 2) = false := by rw [beq_eq_false_iff_ne]; omega
            rw [if_neg hk0, if_neg hk0, hm] at HE
            have hfl := float_nat (m := n) (by omega)
            rw [← HN.out, ← hfl] at HE
            obtain ⟨X, hX⟩ : ∃ X, floatOfInt .f64 (n : Int) = X := ⟨_, rfl⟩
            rw [hfl] at hX
            rw [hfl, hX] at HE
            rw [hX] at hfl
            rw [hmi]
            clear hmi hm hk0 hX
            go_wp2_with fail
            refine (CH.out _).mono ?_
            rintro e w' ⟨rfl, rfl⟩
            go_wp2_with fail
            go_ret2
            exact ⟨by rw [HE.out.1, HE.out.2]; rfl, rfl⟩
      · have HE := Lib.hid (HFIN.out (by
          rcases (by omega : k = 13 ∨ t.length ≤ k) with h | h
          · exact Or.inl h
          · exact Or.inr fun hj => absurd hj (by omega)))
        have hlt : ¬ (m : Int) < min (s.size : Int) 15 := by omega
        clear hgo
        by_cases hk0 : k = 0
        · subst hk0
          obtain rfl : m = 2 := by omega
          rw [if_pos rfl, if_pos rfl] at HE
          rw [hmi]
          clear hmi hm
          go_wp2_with fail
          go_ret2
          exact ⟨by rw [HE.out.1, HE.out.2]; rfl, rfl⟩
        · have g3 : ((m : Int) == 2) = false := by rw [beq_eq_false_iff_ne]; omega
          rw [if_neg hk0, if_neg hk0, hm] at HE
          have hfl := float_nat (m := n) (by omega)
          rw [← HN.out, ← hfl] at HE
          obtain ⟨X, hX⟩ : ∃ X, floatOfInt .f64 (n : Int) = X := ⟨_, rfl⟩
          rw [hfl] at hX
          rw [hfl, hX] at HE
          rw [hX] at hfl
          rw [hmi]
          clear hmi hm hk0 hX
          go_wp2_with fail
          go_ret2
          exact ⟨by rw [HE.out.1, HE.out.2]; rfl, rfl⟩
end Go.Proofs.YtohickpkkldmdaaGreatDoor

namespace Go.Proofs.YtohickpkkldmdaaGreatDoor
open Go.RowKit Go.Lib

def qN : Nat := 9221120237041090561
/-- All NaNs are one. -/
def cn (b : Nat) : Nat := if 9218868437227405312 < mag b then qN else b
def flC (op : BinOp) (a b : Nat) : Nat := match floatBits op .f64 a b with | some r => r | none => qN
theorem mag_qN : mag qN = qN := by decide
theorem cn_nan {b : Nat} (h : 9218868437227405312 < mag b) : cn b = qN := if_pos h
theorem cn_id {b : Nat} (h : mag b ≤ 9218868437227405312) : cn b = b := if_neg (by omega)
theorem word_mag {s : Bool} {r : Nat} (h : r ≤ 9218868437227405312) : mag (Ieee.double.word s r) ≤ 9218868437227405312 ∧ Ieee.double.word s r < 18446744073709551616 := by
  rw [word_sign]
  unfold mag
  split <;> omega
theorem near_mag (s : Bool) (m : Nat) (p : Int) : mag (Ieee.double.nearest s m p) ≤ 9218868437227405312 ∧ Ieee.double.nearest s m p < 18446744073709551616 := by
  unfold Ieee.Format.nearest
  split
  · exact word_mag (by omega)
  · exact word_mag (by rw [dbl_inf]; exact Nat.min_le_right _ _)
theorem mul_nan {a b : Nat} (h : 9218868437227405312 < mag a ∨ 9218868437227405312 < mag b) : floatBits .mul .f64 a b = none := by
  show (((Ieee.double.read a).product (Ieee.double.read b)).map Ieee.double.write) = none
  rcases h with h | h
  · rw [read_nan h]; rfl
  · rw [read_nan h]
    cases Ieee.double.read a <;> rfl
theorem quo_nan {a b : Nat} (h : 9218868437227405312 < mag a ∨ 9218868437227405312 < mag b) : floatBits .quo .f64 a b = none := by
  show (((Ieee.double.read a).quotient 54 (Ieee.double.read b)).map Ieee.double.write) = none
  rcases h with h | h
  · rw [read_nan h]; rfl
  · rw [read_nan h]
    cases Ieee.double.read a <;> rfl
theorem write_mag {d : Ieee.Datum} (h : d.isNaN = false) : mag (Ieee.double.write d) ≤ 9218868437227405312 ∧ Ieee.double.write d < 18446744073709551616 := by
  cases d with
  | number s m p => exact near_mag s m p
  | infinity s => exact word_mag (by rw [dbl_inf]; exact Nat.le_refl _)
  | nan s f => cases h
theorem mul_mag {a b r : Nat} (h : floatBits .mul .f64 a b = some r) : mag r ≤ 9218868437227405312 ∧ r < 18446744073709551616 := by
  replace h : (((Ieee.double.read a).product (Ieee.double.read b)).map Ieee.double.write) = some r := h
  cases hd : (Ieee.double.read a).product (Ieee.double.read b) with
  | none => rw [hd] at h; cases h
  | some d =>
    rw [hd] at h
    have e : Ieee.double.write d = r := Option.some.inj h
    rw [← e]
    refine write_mag ?_
    revert hd
    cases Ieee.double.read a <;> cases Ieee.double.read b <;> simp only [Ieee.Datum.product] <;> (try split) <;> intro hd <;> cases hd <;> rfl
theorem quo_mag {a b r : Nat} (h : floatBits .quo .f64 a b = some r) : mag r ≤ 9218868437227405312 ∧ r < 18446744073709551616 := by
  replace h : (((Ieee.double.read a).quotient 54 (Ieee.double.read b)).map Ieee.double.write) = some r := h
  cases hd : (Ieee.double.read a).quotient 54 (Ieee.double.read b) with
  | none => rw [hd] at h; cases h
  | some d =>
    rw [hd] at h
    have e : Ieee.double.write d = r := Option.some.inj h
    rw [← e]
    refine write_mag ?_
    revert hd
    cases Ieee.double.read a <;> cases Ieee.double.read b <;> simp only [Ieee.Datum.quotient] <;> (try split) <;> (try split) <;> intro hd <;> cases hd <;> rfl
theorem qN_nan {b : Nat} (h : 9218868437227405312 < mag b) : 9218868437227405312 < mag (cn b) := by rw [cn_nan h]; decide
theorem mulC_cn (a b : Nat) : flC .mul (cn a) (cn b) = flC .mul a b := by
  unfold flC
  by_cases ha : 9218868437227405312 < mag a
  · rw [mul_nan (Or.inl ha), mul_nan (Or.inl (qN_nan ha))]
  · by_cases hb : 9218868437227405312 < mag b
    · rw [mul_nan (Or.inr hb), mul_nan (Or.inr (qN_nan hb))]
    · rw [cn_id (by omega), cn_id (by omega)]
theorem quoC_cn (a b : Nat) : flC .quo a (cn b) = flC .quo a b := by
  unfold flC
  by_cases hb : 9218868437227405312 < mag b
  · rw [quo_nan (Or.inr hb), quo_nan (Or.inr (qN_nan hb))]
  · rw [cn_id (by omega)]
theorem nan_word {a b : Nat} (_ha : a < 2) (hb : b < 2 ^ 52 - 1) : 9218868437227405312 < mag (a * 2 ^ 63 + 0x7ff0000000000000 + 1 + b) := by
  unfold mag
  omega
/-- What a product or a quotient gives: some NaN, where it has no answer. -/
structure FlRun (P : Program) (op : BinOp) (t : TypeId) (a b : Nat) (φ : World → Nat) (d : Nat) : Prop where
  run : ∀ W, (binOp op t (.float .f64 a) (.float .f64 b)).run P W = .ok (.float .f64 (φ W)) (W.drewN d)
  val : ∀ W, cn (φ W) = flC op a b
  lt : ∀ W, φ W < 18446744073709551616
theorem run_fl (P : Program) (op : BinOp) (hop : op = .mul ∨ op = .quo) (t : TypeId) (a b : Nat) : ∃ φ d, FlRun P op t a b φ d := by
  cases h : floatBits op .f64 a b with
  | some r =>
    have hm : mag r ≤ 9218868437227405312 ∧ r < 18446744073709551616 := by
      rcases hop with rfl | rfl
      · exact mul_mag h
      · exact quo_mag h
    exact ⟨fun _ => r, 0, fun W => run_float_arith W op t .f64 a b r h, fun _ => by unfold flC; rw [h, cn_id hm.1], fun _ => hm.2⟩
  | none =>
    refine ⟨fun W => Question.cut (.nanBits .f64 a b) (W.tape W.drawn (.nanBits .f64 a b)), 1, fun W => ?_, fun W => ?_, fun W => ?_⟩
    · rcases hop with rfl | rfl
      · have h' : FloatKind.f64.format.mul a b = none := h
        simp [binOp, Op.floatArith, h', Question.forced]
        rfl
      · have h' : FloatKind.f64.format.div a b = none := h
        simp [binOp, Op.floatArith, h', Question.forced]
        rfl
    · unfold flC
      rw [h, cn_nan]
      show 9218868437227405312 < mag (W.tape W.drawn (.nanBits .f64 a b) % 2 * 2 ^ 63 + 0x7ff0000000000000 + 1 + W.tape W.drawn (.nanBits .f64 a b) / 2 % (2 ^ 52 - 1))
      exact nan_word (Nat.mod_lt _ (by omega)) (Nat.mod_lt _ (by omega))
    · show W.tape W.drawn (.nanBits .f64 a b) % 2 * 2 ^ 63 + 0x7ff0000000000000 + 1 + W.tape W.drawn (.nanBits .f64 a b) / 2 % (2 ^ 52 - 1) < 18446744073709551616
      omega
def powF : Nat → Nat → Nat → Nat → Nat
  | 0, p, _, _ => p
  | f + 1, p, x, n => if n = 0 then p else powF f (if n % 2 = 1 then flC .mul p x else p) (flC .mul x x) (n / 2)
theorem powF_zero (f p x : Nat) : powF f p x 0 = p := by cases f <;> rfl
/-- A float to a whole power. -/
def powR (x y : Nat) : Nat := if sgn y = 0 ∨ mag y = 0 then powF 64 4607182418800017408 (cn x) (whQ (mag y)) else flC .quo 4607182418800017408 (powF 64 4607182418800017408 (cn x) (whQ (mag y)))
theorem uint_of_wh {r : Nat} (h : r < 9218868437227405312) (hq : whQ r < 9223372036854775807) : floatToIntVal .f64 r .u64 = some (whQ r : Int) := by
  have h1 := toInt_wh (b := r) (by rw [mag_no h]; exact h)
  have hs : sgn r = 0 := by unfold sgn; omega
  rw [whZ, if_pos hs, mag_no h] at h1
  unfold floatToIntVal
  rw [h1]
  show (if 0 ≤ (whQ r : Int) ∧ (whQ r : Int) ≤ 18446744073709551615 then some (whQ r : Int) else none) = _
  rw [if_pos (by omega)]
theorem and_one (n : Nat) (h : n < 18446744073709551616) : bits .and .u64 (n : Int) 1 = ((n % 2 : Nat) : Int) := by
  have h1 := u64_and_nat n 1 h (by omega)
  rw [Nat.and_one_is_mod] at h1
  exact h1
def PowEnd (x y : Nat) (w : World) (e : Ending) (w' : World) : Prop := ∃ z, e = .returned (.tuple #[.float .f64 z, .bool true]) ∧ cn z = powR x y ∧ z < 18446744073709551616 ∧ Below w.heap.size w w'
def PowLoop (R : Nat) (w : World) (xv pv lv : Value) (W : World) : Prop :=
  ∃ x p n f : Nat, xv = .float .f64 x ∧ pv = .float .f64 p ∧ lv = .int .u64 (n : Int) ∧ n < 9007199254740992 ∧ n < 2 ^ f ∧ powF f (cn p) (cn x) n = R ∧ p < 18446744073709551616 ∧ x < 18446744073709551616 ∧ Below w.heap.size w W
set_option maxRecDepth 100000 in
set_option maxHeartbeats 4000000 in
theorem pow_yes (x y : Nat) (w : World) (hx : x < 18446744073709551616) (hy : y < 18446744073709551616) (h : wholeB y 4845873199050653696 = true) :
    Calls Tryz.prog 19 #[.float .f64 x, .float .f64 y] w (PowEnd x y w) := by
  have C1 := wholeBelow_any y 4845873199050653696 w hy (by omega)
  rw [h] at C1
  have hlt : mag y < 4845873199050653696 := by
    unfold wholeB at h
    exact of_decide_eq_true (Bool.and_eq_true_iff.1 h).1
  have hq := whQ_lt hlt e53_V
  have C2 := Lib.hid (fun W => abs_any y W hy)
  have hi := uint_of_wh (r := mag y) (by omega) (by omega)
  have hc : ∀ W, (convert 24 22 (.float .f64 (mag y))).run Tryz.prog W = .ok (.int .u64 (whQ (mag y) : Int)) W := fun W => run_convert_float_int W 24 22 .f64 .u64 _ _ (by rw [Tryz.underlying24]; rfl) Tryz.underlying22 hi
  have hS : powR x y = (if sgn y = 0 ∨ mag y = 0 then powF 64 4607182418800017408 (cn x) (whQ (mag y)) else flC .quo 4607182418800017408 (powF 64 4607182418800017408 (cn x) (whQ (mag y)))) := rfl
  have hord : ((sgn y = 0 ∨ mag y = 0) ∧ (FloatKind.f64.format.order y 0 == some .lt) = false) ∨ (¬ (sgn y = 0 ∨ mag y = 0) ∧ (FloatKind.f64.format.order y 0 == some .lt) = true) := by
    have hsm := sgn_mag y hy
    rcases (by unfold sgn; omega : sgn y = 0 ∨ sgn y = 9223372036854775808) with h0 | h0
    · left
      refine ⟨Or.inl h0, ?_⟩
      rcases Nat.eq_zero_or_pos (mag y) with h1 | h1
      · rw [show y = 0 by omega]; decide
      · rw [show y = mag y by omega]; exact ord_zero_lt h1 (by omega)
    · rcases Nat.eq_zero_or_pos (mag y) with h1 | h1
      · left
        refine ⟨Or.inr h1, ?_⟩
        rw [show y = 9223372036854775808 by omega]; decide
      · right
        refine ⟨by omega, ?_⟩
        rw [show y = 9223372036854775808 + mag y by omega, ord0_neg h1 (by omega)]
        rfl
  obtain ⟨M, hM⟩ : ∃ M, mag y = M := ⟨_, rfl⟩
  obtain ⟨n0, hn0⟩ : ∃ n0, whQ M = n0 := ⟨_, rfl⟩
  obtain ⟨R, hR⟩ : ∃ R, powF 64 4607182418800017408 (cn x) n0 = R := ⟨_, rfl⟩
  rw [hM] at hq C2 hc hS hord
  rw [hn0] at hq hc hS
  rw [hR] at hS
  have HR := Lib.hid (show powF 64 (cn 4607182418800017408) (cn x) n0 = R by rw [cn_id (by decide)]; exact hR)
  have HS := Lib.hid hS
  have C1 := Lib.hid C1
  have hb0 := Below.refl w.heap.size w
  clear h hlt hi hM hn0 hR hS
  rcases hord with ⟨hpos, ho⟩ | ⟨hneg, ho⟩
  · have HQ := Lib.hid (show powR x y = R by rw [HS.out, if_pos hpos])
    clear hpos
    go_enter Tryz.func19, Tryz.ntmps19
    go_wp2_with fail
    refine C1.out.mono ?_
    rintro e w' ⟨rfl, rfl⟩
    go_wp2_with fail
    refine (C2.out _).mono ?_
    rintro e w' ⟨rfl, rfl⟩
    go_wp2_with fail
    go_loopw [0, 6, 7] (fun xv pv lv wr => PowLoop R w xv pv lv wr) (fun _ _ lv _ => (RowKit.intOf lv).toNat)
    case atStart => exact ⟨x, 4607182418800017408, n0, 64, rfl, rfl, rfl, hq, by omega, HR.out, by omega, hx, hb0⟩
    case round =>
      obtain ⟨x1, p, n, f, rfl, rfl, rfl, hn, hf, hF, hp, hx1, hB⟩ := hrel
      have HF := Lib.hid hF
      have HFf := Lib.hid hf
      clear hF hf
      by_cases h0 : n = 0
      · have HE := Lib.hid (show cn p = R by have h := HF.out; rw [h0, powF_zero] at h; exact h)
        have hn0 : ¬ (0 : Int) < (n : Int) := by omega
        clear h0
        go_wp2_with fail
        go_ret2
        exact ⟨p, rfl, by rw [HE.out, HQ.out], hp, hB⟩
      · have hn0 : (0 : Int) < (n : Int) := by omega
        obtain ⟨g, rfl⟩ : ∃ g, f = g + 1 := by
          cases f with
          | zero => have := HFf.out; rw [Nat.pow_zero] at this; omega
          | succ g => exact ⟨g, rfl⟩
        have HG := Lib.hid (show n / 2 < 2 ^ g ∧ powF g (if n % 2 = 1 then flC .mul (cn p) (cn x1) else cn p) (flC .mul (cn x1) (cn x1)) (n / 2) = R by
          have h1 := HFf.out
          rw [Nat.pow_succ] at h1
          refine ⟨by omega, ?_⟩
          have h2 := HF.out
          rw [powF, if_neg h0] at h2
          exact h2)
        have hdiv : (n : Int) / 2 = ((n / 2 : Nat) : Int) := by omega
        have hand := and_one n (by omega)
        obtain ⟨φ2, d2, F2⟩ := run_fl Tryz.prog .mul (Or.inl rfl) 24 x1 x1
        have hm2 := F2.run
        have H2 := Lib.hid F2
        clear h0 F2
        rcases (by omega : n % 2 = 1 ∨ n % 2 = 0) with hpar | hpar
        · obtain ⟨φ1, d1, F1⟩ := run_fl Tryz.prog .mul (Or.inl rfl) 24 p x1
          have hm1 := F1.run
          have H1 := Lib.hid F1
          rw [hpar] at hand
          replace hand : bits .and .u64 (n : Int) 1 = 1 := hand
          have HG2 := Lib.hid (show powF g (flC .mul (cn p) (cn x1)) (flC .mul (cn x1) (cn x1)) (n / 2) = R by have h := HG.out.2; rw [if_pos hpar] at h; exact h)
          have HN := Lib.hid (show n / 2 < n by omega)
          clear hpar F1 hdiv
          go_wp2_with (simp only [hm1, hm2])
          go_roundw
          case rel => exact ⟨φ2 (wr.drewN d1), φ1 wr, n / 2, g, rfl, rfl, congrArg (Value.int .u64) (by omega), by omega, HG.out.1, by rw [H1.out.val, H2.out.val, ← mulC_cn p x1, ← mulC_cn x1 x1]; exact HG2.out, H1.out.lt _, H2.out.lt _, below_drewN hB (d1 + d2)⟩
          case measure => simp [RowKit.intOf]; omega
        · rw [hpar] at hand
          replace hand : bits .and .u64 (n : Int) 1 = 0 := hand
          have HG2 := Lib.hid (show powF g (cn p) (flC .mul (cn x1) (cn x1)) (n / 2) = R by have h := HG.out.2; rw [if_neg (by omega)] at h; exact h)
          clear hpar hdiv
          go_wp2_with (simp only [hm2])
          go_roundw
          case rel => exact ⟨φ2 wr, p, n / 2, g, rfl, rfl, congrArg (Value.int .u64) (by omega), by omega, HG.out.1, by rw [H2.out.val, ← mulC_cn x1 x1]; exact HG2.out, hp, H2.out.lt _, below_drewN hB d2⟩
          case measure => simp [RowKit.intOf]; omega
  · have HQ := Lib.hid (show powR x y = flC .quo 4607182418800017408 R by rw [HS.out, if_neg hneg])
    clear hneg
    go_enter Tryz.func19, Tryz.ntmps19
    go_wp2_with fail
    refine C1.out.mono ?_
    rintro e w' ⟨rfl, rfl⟩
    go_wp2_with fail
    refine (C2.out _).mono ?_
    rintro e w' ⟨rfl, rfl⟩
    go_wp2_with fail
    go_loopw [0, 6, 7] (fun xv pv lv wr => PowLoop R w xv pv lv wr) (fun _ _ lv _ => (RowKit.intOf lv).toNat)
    case atStart => exact ⟨x, 4607182418800017408, n0, 64, rfl, rfl, rfl, hq, by omega, HR.out, by omega, hx, hb0⟩
    case round =>
      obtain ⟨x1, p, n, f, rfl, rfl, rfl, hn, hf, hF, hp, hx1, hB⟩ := hrel
      have HF := Lib.hid hF
      have HFf := Lib.hid hf
      clear hF hf
      by_cases h0 : n = 0
      · have HE := Lib.hid (show cn p = R by have h := HF.out; rw [h0, powF_zero] at h; exact h)
        have hn0 : ¬ (0 : Int) < (n : Int) := by omega
        clear h0
        obtain ⟨φ, d, FQ⟩ := run_fl Tryz.prog .quo (Or.inr rfl) 24 4607182418800017408 p
        have hq1 := FQ.run
        have HV := Lib.hid FQ
        clear FQ
        go_wp2_with (simp only [hq1])
        go_ret2
        exact ⟨_, rfl, by rw [HV.out.val, HQ.out, ← HE.out, quoC_cn], HV.out.lt _, below_drewN hB d⟩
      · have hn0 : (0 : Int) < (n : Int) := by omega
        obtain ⟨g, rfl⟩ : ∃ g, f = g + 1 := by
          cases f with
          | zero => have := HFf.out; rw [Nat.pow_zero] at this; omega
          | succ g => exact ⟨g, rfl⟩
        have HG := Lib.hid (show n / 2 < 2 ^ g ∧ powF g (if n % 2 = 1 then flC .mul (cn p) (cn x1) else cn p) (flC .mul (cn x1) (cn x1)) (n / 2) = R by
          have h1 := HFf.out
          rw [Nat.pow_succ] at h1
          refine ⟨by omega, ?_⟩
          have h2 := HF.out
          rw [powF, if_neg h0] at h2
          exact h2)
        have hdiv : (n : Int) / 2 = ((n / 2 : Nat) : Int) := by omega
        have hand := and_one n (by omega)
        obtain ⟨φ2, d2, F2⟩ := run_fl Tryz.prog .mul (Or.inl rfl) 24 x1 x1
        have hm2 := F2.run
        have H2 := Lib.hid F2
        clear h0 F2
        rcases (by omega : n % 2 = 1 ∨ n % 2 = 0) with hpar | hpar
        · obtain ⟨φ1, d1, F1⟩ := run_fl Tryz.prog .mul (Or.inl rfl) 24 p x1
          have hm1 := F1.run
          have H1 := Lib.hid F1
          rw [hpar] at hand
          replace hand : bits .and .u64 (n : Int) 1 = 1 := hand
          have HG2 := Lib.hid (show powF g (flC .mul (cn p) (cn x1)) (flC .mul (cn x1) (cn x1)) (n / 2) = R by have h := HG.out.2; rw [if_pos hpar] at h; exact h)
          have HN := Lib.hid (show n / 2 < n by omega)
          clear hpar F1 hdiv
          go_wp2_with (simp only [hm1, hm2])
          go_roundw
          case rel => exact ⟨φ2 (wr.drewN d1), φ1 wr, n / 2, g, rfl, rfl, congrArg (Value.int .u64) (by omega), by omega, HG.out.1, by rw [H1.out.val, H2.out.val, ← mulC_cn p x1, ← mulC_cn x1 x1]; exact HG2.out, H1.out.lt _, H2.out.lt _, below_drewN hB (d1 + d2)⟩
          case measure => simp [RowKit.intOf]; omega
        · rw [hpar] at hand
          replace hand : bits .and .u64 (n : Int) 1 = 0 := hand
          have HG2 := Lib.hid (show powF g (cn p) (flC .mul (cn x1) (cn x1)) (n / 2) = R by have h := HG.out.2; rw [if_neg (by omega)] at h; exact h)
          clear hpar hdiv
          go_wp2_with (simp only [hm2])
          go_roundw
          case rel => exact ⟨φ2 wr, p, n / 2, g, rfl, rfl, congrArg (Value.int .u64) (by omega), by omega, HG.out.1, by rw [H2.out.val, ← mulC_cn x1 x1]; exact HG2.out, hp, H2.out.lt _, below_drewN hB d2⟩
          case measure => simp [RowKit.intOf]; omega
set_option maxRecDepth 100000 in
set_option maxHeartbeats 1000000 in
theorem pow_no (x y : Nat) (w : World) (hy : y < 18446744073709551616) (h : wholeB y 4845873199050653696 = false) :
    Calls Tryz.prog 19 #[.float .f64 x, .float .f64 y] w fun e w' => e = .returned (.tuple #[.float .f64 0, .bool false]) ∧ w = w' := by
  have C1 := wholeBelow_any y 4845873199050653696 w hy (by omega)
  rw [h] at C1
  have C1 := Lib.hid C1
  clear h
  go_enter Tryz.func19, Tryz.ntmps19
  go_wp2_with fail
  refine C1.out.mono ?_
  rintro e w' ⟨rfl, rfl⟩
  go_wp2_with fail
  go_ret2
  exact ⟨rfl, rfl⟩
end Go.Proofs.YtohickpkkldmdaaGreatDoor
