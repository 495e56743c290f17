/- Several texts in one (Contracts of layer 7: orders that go by numbers or values; Layer 7: each order is one; values compared; A slice of strings that came in, opened and shut; A slice of layer 7's items that came in, opened; Contracts of layer 7's laws: entries made of items; lists of numbers compared; Contracts of layer 1: the bytes of a code, in the program and in the definition; Plain arithmetic of layer 1: the character at a place of a string; Plain arithmetic of layer 1: the places at which the characters of a string begin; Contracts of layer 1: Len, recase, Lower, Upper; Contracts of layer 7: values written; every order of the table at once; Known; Layer 7's laws: what they ask of three entries; Layer 7's laws: three entries; what Order leaves; Layer 7's laws: the entries; the walk of SortsKeys; Layer 7's laws: the walk of SortsWhole). -/
import Derived.OpenShut
import Derived.ChangeShapes
import Derived.WideShapes
import Derived.Deep.Strs
import Derived.Deep.Slices
import Derived.Deep.Fields
import Derived.ChangeSame
import Derived.Deep.RegionHeldLaw
import Derived.Deep.AppendLies
import Derived.Test.YtbbbdcohkfijoaaGreatDoorRows
import Derived.WalkKit
import Derived.WalkSpells
import Derived.WalkLawsBesides
import Derived.Lib.Hide
import Derived.Test.YtbbbdcohkfijoaaGreatDoorShelf
import Derived.Lib.DecodeN
import Derived.Shelf.Unicode.DecodeSlow
import Derived.Lib.RuneCount
import Derived.Lib.LazyBuf
import Derived.RangeFuncNested
import Derived.RangeFuncBound
import Derived.RangeFuncCalls
import Derived.RangeFuncLeaves
import Derived.Shelf.Abstract
import Derived.Shelf.RegionOpen
import Derived.OwnWalkIn
import Derived.TacticsInMore
import Derived.LoopNIn
import Derived.LoopIn
import Derived.Lib.RuneCountTail
import Derived.WalkSmall
import Derived.BigQuiet
import Derived.Deep.QuietTactic
import Derived.Deep.Upon
import Derived.Test.YtbbbdcohkfijoaaGreatDoorQw2
import Derived.Test.YtbbbdcohkfijoaaGreatDoorQw6
import Derived.Test.YtbbbdcohkfijoaaGreatDoorQw10
namespace Go.Proofs.YtbbbdcohkfijoaaGreatDoor
open Go.RowKit Go.Lib

/-- An item's value set anew. -/
theorem itc_set {w W : World} {b a : Nat} {d : Dat} (h : Blk W b (itC a d) 136) (hg : w.grownBy W (some b)) (k : Int) (n : Nat) (s : ByteArray) :
    Blk (((W.setCell ⟨b, 2, none⟩ (.int .i64 k)).setCell ⟨b, 3, none⟩ (.float .f64 n)).setCell ⟨b, 4, none⟩ (.string s)) b (itC a { d with kind := k, num := n, str := s }) 136 ∧ w.grownBy (((W.setCell ⟨b, 2, none⟩ (.int .i64 k)).setCell ⟨b, 3, none⟩ (.float .f64 n)).setCell ⟨b, 4, none⟩ (.string s)) (some b) :=
  ⟨((h.set (j := 2) (u := .int .i64 k)).set (j := 3) (u := .float .f64 n)).set (j := 4) (u := .string s), ((hg.trans (srt_grown_set W b 2 _)).trans (srt_grown_set _ b 3 _)).trans (srt_grown_set _ b 4 _)⟩
theorem srt_grown_below {w W : World} {r : Option Nat} (h : Below w.heap.size w W) : w.grownBy W r := ⟨h.os, h.tape, h.output, h.size, fun i hi _ => h.block i hi⟩
noncomputable def rdKey (d : Dat) : Dat := { d with kind := 1, num := preN d.key.data.toList, str := ⟨#[]⟩ }
set_option maxRecDepth 100000 in
theorem readies_countKey (w0 : World) (B : Nat) (conv : ByteArray) (n : Nat) (es : Nat → Dat) (hk : ∀ a, a < n → (es a).key.size ≤ 140737488355328) : Readies w0 B fCountKey conv n es (fun a => rdKey (es a)) := by
  intro W b a ha _ h
  have hk := hk a ha
  obtain ⟨d, hd⟩ : ∃ d, es a = d := ⟨_, rfl⟩
  rw [hd] at h hk
  show Calls _ _ _ _ fun e w' => (∃ r, e = .returned r) ∧ Blk w' b (itC a (rdKey (es a))) 136 ∧ W.grownBy w' (some b)
  rw [hd]
  obtain ⟨p1, -, -, -, -⟩ := Itc.cells h
  have C1 := Lib.hid (prefix_val d.key W hk)
  have C2 := Lib.hid (fun W => cOf_any (preN d.key.data.toList) W)
  have hst := srt_store_float
  obtain ⟨z, hz⟩ : ∃ z, (sigL d.key.data.toList).2.2.2.2 = z := ⟨_, rfl⟩
  rw [hz] at C1
  have H := Lib.hid h
  obtain ⟨N, hN⟩ : ∃ N, preN d.key.data.toList = N := ⟨_, rfl⟩
  unfold rdKey
  rw [hN] at C1 C2 ⊢
  clear h hd hk hz hN
  go_enter Tryz.func146, Tryz.ntmps146
  go_wp2_with fail
  refine C1.out.mono ?_
  rintro e W2 ⟨rfl, h2⟩
  go_wp2_with fail
  refine (C2.out _).mono ?_
  rintro e W3 ⟨rfl, h3⟩
  have h4 := h2.trans (h3.mono h2.size)
  have k3 := H.out.below h4 H.out.lt
  obtain ⟨z1, z2⟩ := itc_set k3 (srt_grown_below h4) 1 N ⟨#[]⟩
  obtain ⟨-, c2, c3, c4, -⟩ := Itc.cells k3
  have f2 := k3.fro 2
  have f3 := k3.fro 3
  have f4 := k3.fro 4
  have Z := Lib.hid (And.intro z1 z2)
  clear z1 z2 k3 h2 h3 h4 p1
  go_wp2_with fail
  go_end0
  exact ⟨⟨_, rfl⟩, Z.out⟩
noncomputable def rdNum (d : Dat) : Dat := { d with kind := 1, num := numV2 d.kind d.num d.str, str := ⟨#[]⟩ }
set_option maxRecDepth 100000 in
theorem readies_count (w0 : World) (B : Nat) (conv : ByteArray) (n : Nat) (es : Nat → Dat) (hk : ∀ a, a < n → (es a).str.size ≤ 140737488355328) : Readies w0 B fCount conv n es (fun a => rdNum (es a)) := by
  intro W b a ha _ h
  have hk := hk a ha
  obtain ⟨d, hd⟩ : ∃ d, es a = d := ⟨_, rfl⟩
  rw [hd] at h hk
  show Calls _ _ _ _ fun e w' => (∃ r, e = .returned r) ∧ Blk w' b (itC a (rdNum (es a))) 136 ∧ W.grownBy w' (some b)
  rw [hd]
  obtain ⟨-, p2, p3, p4, -⟩ := Itc.cells h
  have C1 := Lib.hid (cNumber_any d.kind d.num d.str W hk)
  obtain ⟨N, hN⟩ : ∃ N, numV2 d.kind d.num d.str = N := ⟨_, rfl⟩
  have C2 := Lib.hid (fun W => cOf_any N W)
  have hst := srt_store_float
  have H := Lib.hid h
  unfold rdNum
  rw [hN] at C1 ⊢
  clear h hd hk hN
  go_enter Tryz.func150, Tryz.ntmps150
  go_wp2_with fail
  refine C1.out.mono ?_
  rintro e W2 ⟨rfl, h2⟩
  go_wp2_with fail
  refine (C2.out _).mono ?_
  rintro e W3 ⟨rfl, h3⟩
  have h4 := h2.trans (h3.mono h2.size)
  have k3 := H.out.below h4 H.out.lt
  obtain ⟨z1, z2⟩ := itc_set k3 (srt_grown_below h4) 1 N ⟨#[]⟩
  obtain ⟨-, c2, c3, c4, -⟩ := Itc.cells k3
  have f2 := k3.fro 2
  have f3 := k3.fro 3
  have f4 := k3.fro 4
  have Z := Lib.hid (And.intro z1 z2)
  clear z1 z2 k3 h2 h3 h4 p2 p3 p4
  go_wp2_with fail
  go_end0
  exact ⟨⟨_, rfl⟩, Z.out⟩
/-- The first of two comparisons that parts. -/
def kcv (c k : Int) : Int := if c = 0 then k else c
/-- Keys by their numbers, then byte by byte. -/
noncomputable def cvKeyN (d : Nat → Dat) (a b : Nat) : Int := kcv (cmpN (d a).num (d b).num) (Lib.compareBytes (d a).key.data.toList (d b).key.data.toList)
theorem itc_vals {W : World} {b a : Nat} {d : Dat} (h : Blk W b (itC a d) 136) : ∀ W', Below W.heap.size W W' → W'.cell? ⟨b, 2, none⟩ = some (.int .i64 d.kind) ∧ W'.cell? ⟨b, 3, none⟩ = some (.float .f64 d.num) ∧ W'.cell? ⟨b, 4, none⟩ = some (.string d.str) := fun W' hb => by
  obtain ⟨_, h2, h3, h4, _⟩ := Itc.cells (h.below hb h.lt)
  exact ⟨h2, h3, h4⟩
set_option maxRecDepth 100000 in
set_option maxHeartbeats 2000000 in
theorem byKeyN_any {W : World} {a b p q : Nat} {d e : Dat} (hd : d.kind = 1 ∧ d.str = ⟨#[]⟩) (he : e.kind = 1 ∧ e.str = ⟨#[]⟩) (h1 : Blk W p (itC a d) 136) (h2 : Blk W q (itC b e) 136) :
    Calls Tryz.prog fByKeyN #[iptr p, iptr q] W fun r w' => r = .returned (.int .i64 (kcv (cmpN d.num e.num) (Lib.compareBytes d.key.data.toList e.key.data.toList))) ∧ Below W.heap.size W w' := by
  have v1 := itc_vals h1
  have v2 := itc_vals h2
  obtain ⟨p2, p3, p4⟩ := v1 W (Below.refl _ _)
  obtain ⟨q2, q3, q4⟩ := v2 W (Below.refl _ _)
  have cC := fun W => cCompare_num 1 1 d.num e.num ⟨#[]⟩ ⟨#[]⟩ ⟨#[]⟩ W (by decide) (by decide) (by decide) (by decide)
  have e1 : ∀ x, numV2 1 x ⟨#[]⟩ = x := fun x => if_pos (Or.inl rfl)
  rw [e1, e1] at cC
  rw [hd.1] at p2
  rw [hd.2] at p4
  rw [he.1] at q2
  rw [he.2] at q4
  have V := Lib.hid (fun (W' : World) (hb : Below W.heap.size W W') => (show (W'.cell? ⟨p, 2, none⟩ = some (.int .i64 1) ∧ W'.cell? ⟨p, 3, none⟩ = some (.float .f64 d.num) ∧ W'.cell? ⟨p, 4, none⟩ = some (.string ⟨#[]⟩)) ∧ (W'.cell? ⟨q, 2, none⟩ = some (.int .i64 1) ∧ W'.cell? ⟨q, 3, none⟩ = some (.float .f64 e.num) ∧ W'.cell? ⟨q, 4, none⟩ = some (.string ⟨#[]⟩)) from ⟨by have := v1 W' hb; rw [hd.1, hd.2] at this; exact this, by have := v2 W' hb; rw [he.1, he.2] at this; exact this⟩))
  have H1 := Lib.hid h1
  have H2 := Lib.hid h2
  obtain ⟨x, hx⟩ : ∃ x, d.num = x := ⟨_, rfl⟩
  obtain ⟨y, hy⟩ : ∃ x, e.num = x := ⟨_, rfl⟩
  obtain ⟨k, hk⟩ : ∃ k, Lib.compareBytes d.key.data.toList e.key.data.toList = k := ⟨_, rfl⟩
  rw [hx] at p3 cC V ⊢
  rw [hy] at q3 cC V ⊢
  obtain ⟨c, hc⟩ : ∃ c, cmpN x y = c := ⟨_, rfl⟩
  rw [hc] at cC ⊢
  rw [hk]
  have HKY := Lib.hid hk
  have CC := Lib.hid cC
  clear h1 h2 v1 v2 hd he hx hy hk hc cC e1
  go_enter Tryz.func147, Tryz.ntmps147
  go_wp2_with fail
  go_region_held3 (fun w' => (w'.cell? ⟨p, 2, none⟩ = some (.int .i64 1) ∧ w'.cell? ⟨p, 3, none⟩ = some (.float .f64 x) ∧ w'.cell? ⟨p, 4, none⟩ = some (.string ⟨#[]⟩)) ∧ (w'.cell? ⟨q, 2, none⟩ = some (.int .i64 1) ∧ w'.cell? ⟨q, 3, none⟩ = some (.float .f64 y) ∧ w'.cell? ⟨q, 4, none⟩ = some (.string ⟨#[]⟩)))
    (first | (with_reducible exact S2) | go_keep)
    (first | (go_at_call 31; (with_reducible refine (CC.out _).mono ?_); rintro r W4 ⟨rfl, h4⟩; have b4 : Below W.heap.size W W4 := ⟨h4.os, h4.tape, h4.output, h4.size, h4.block⟩; have S2 := V.out _ b4; clear h4))
  all_goals
    clear S2 p2 p3 p4 q2 q3 q4
    by_cases h0 : c = 0
    · have CK := byKey_any (H1.out.below b4 H1.out.lt) (H2.out.below b4 H2.out.lt)
      rw [HKY.out] at CK
      have CK := Lib.hid CK
      have e1 : (c != 0) = false := by rw [h0]; rfl
      have E := Lib.hid (show kcv c k = k from if_pos h0)
      clear h0
      go_wp2_with fail
      refine (show Calls _ _ _ _ _ from CK.out).mono ?_
      rintro r W5 ⟨rfl, h5⟩
      have b5 := b4.trans (h5.mono b4.size)
      clear h5
      go_wp2_with fail
      go_ret
      exact ⟨by rw [E.out]; rfl, b5⟩
    · have e1 : (c != 0) = true := by rw [bne_iff_ne]; exact h0
      have E := Lib.hid (show kcv c k = c from if_neg h0)
      clear h0
      go_wp2_with fail
      go_ret
      exact ⟨by rw [E.out]; rfl, b4⟩
theorem cmp_byKeyN (w0 : World) (B n : Nat) (es : Nat → Dat) : CmpOf w0 B fByKeyN n (fun a => rdKey (es a)) (cvKeyN fun a => rdKey (es a)) :=
  fun _ _ _ _ _ _ _ _ h1 h2 => byKeyN_any ⟨rfl, rfl⟩ ⟨rfl, rfl⟩ h1 h2
/-- 0 of values that are no strings, 1 of strings, 2 of arrays. -/
def grp (d : Dat) : Int := if d.sub = true then 2 else if d.kind = 2 then 1 else 0
theorem group_any {W : World} {a p : Nat} {d : Dat} (h1 : Blk W p (itC a d) 136) :
    Calls Tryz.prog 210 #[iptr p] W fun r w' => r = .returned (.int .i64 (grp d)) ∧ W = w' := by
  obtain ⟨-, p2, -, -, p5⟩ := Itc.cells h1
  unfold grp
  obtain ⟨k, hk⟩ : ∃ k, d.kind = k := ⟨_, rfl⟩
  obtain ⟨s, hs⟩ : ∃ k, d.sub = k := ⟨_, rfl⟩
  rw [hk] at p2 ⊢
  rw [hs] at p5 ⊢
  clear h1 hk hs
  cases s with
  | true =>
    rw [if_pos rfl]
    go_enter Tryz.func210, Tryz.ntmps210
    go_wp2
    go_ret
    exact ⟨rfl, rfl⟩
  | false =>
    rw [if_neg (by decide)]
    by_cases h2 : k = 2
    · have e1 : (k == 2) = true := by rw [h2]; rfl
      rw [if_pos h2]
      clear h2
      go_enter Tryz.func210, Tryz.ntmps210
      go_wp2
      go_ret
      exact ⟨rfl, rfl⟩
    · have e1 : (k == 2) = false := by rw [beq_eq_false_iff_ne]; exact h2
      rw [if_neg h2]
      clear h2
      go_enter Tryz.func210, Tryz.ntmps210
      go_wp2
      go_ret
      exact ⟨rfl, rfl⟩
/-- Groups, then values. -/
noncomputable def cvV (d e : Dat) : Int := if grp d - grp e ≠ 0 ∨ d.sub = true then grp d - grp e else if d.kind = 2 then Lib.compareBytes d.str.data.toList e.str.data.toList else cmpN (numV2 d.kind d.num d.str) (numV2 e.kind e.num e.str)
theorem grp_cases (d : Dat) : grp d = 0 ∨ grp d = 1 ∨ grp d = 2 := by
  unfold grp
  split
  · exact Or.inr (Or.inr rfl)
  · split
    · exact Or.inr (Or.inl rfl)
    · exact Or.inl rfl
set_option maxRecDepth 100000 in
set_option maxHeartbeats 2000000 in
/-- The values themselves, whatever Compare answers. -/
theorem byVal_go {W : World} {a b p q : Nat} {d e : Dat} {c : Int} (hs : d.sub = false) (hg : grp d = grp e) (h1 : Blk W p (itC a d) 136) (h2 : Blk W q (itC b e) 136)
    (hC : ∀ W', Below W.heap.size W W' → Calls Tryz.prog 31 #[.agg #[.int .i64 d.kind, .float .f64 d.num, .string d.str], .agg #[.int .i64 e.kind, .float .f64 e.num, .string e.str], .string ⟨#[]⟩] W' fun r w' => r = .returned (.int .i64 c) ∧ Below W'.heap.size W' w') :
    Calls Tryz.prog fByVal #[iptr p, iptr q] W fun r w' => r = .returned (.int .i64 c) ∧ Below W.heap.size W w' := by
  have v1 := itc_vals h1
  have v2 := itc_vals h2
  obtain ⟨p2, p3, p4⟩ := v1 W (Below.refl _ _)
  obtain ⟨q2, q3, q4⟩ := v2 W (Below.refl _ _)
  obtain ⟨-, -, -, -, p5⟩ := Itc.cells h1
  rw [hs] at p5
  have C1 := group_any h1
  have C2 := group_any h2
  rw [← hg] at C2
  obtain ⟨g, hgg⟩ : ∃ g, grp d = g := ⟨_, rfl⟩
  have hgb : 0 ≤ g ∧ g ≤ 2 := by rcases grp_cases d with k | k | k <;> omega
  rw [hgg] at C1 C2
  have C1 := Lib.hid C1
  have C2 := Lib.hid C2
  have V := Lib.hid (fun (W' : World) (hb : Below W.heap.size W W') => (show (W'.cell? ⟨p, 2, none⟩ = some (.int .i64 d.kind) ∧ W'.cell? ⟨p, 3, none⟩ = some (.float .f64 d.num) ∧ W'.cell? ⟨p, 4, none⟩ = some (.string d.str)) ∧ (W'.cell? ⟨q, 2, none⟩ = some (.int .i64 e.kind) ∧ W'.cell? ⟨q, 3, none⟩ = some (.float .f64 e.num) ∧ W'.cell? ⟨q, 4, none⟩ = some (.string e.str)) from ⟨v1 W' hb, v2 W' hb⟩))
  have CC := Lib.hid hC
  have hR := Below.refl W.heap.size W
  have hgz : g - g = 0 := by omega
  clear h1 h2 v1 v2 hs hg hgg hC
  obtain ⟨kd, nd, sd, ke, ne, se, rfl, rfl, rfl, rfl, rfl, rfl⟩ : ∃ kd nd sd ke ne se, d.kind = kd ∧ d.num = nd ∧ d.str = sd ∧ e.kind = ke ∧ e.num = ne ∧ e.str = se := ⟨_, _, _, _, _, _, rfl, rfl, rfl, rfl, rfl, rfl⟩
  go_enter Tryz.func149, Tryz.ntmps149
  go_wp2_with fail
  refine (show Calls _ _ _ _ _ from C1.out).mono ?_
  rintro r w' ⟨rfl, rfl⟩
  go_wp2_with fail
  refine (show Calls _ _ _ _ _ from C2.out).mono ?_
  rintro r w' ⟨rfl, rfl⟩
  go_wp2_with fail
  go_region_held3 (fun w' => (w'.cell? ⟨p, 2, none⟩ = some (.int .i64 d.kind) ∧ w'.cell? ⟨p, 3, none⟩ = some (.float .f64 d.num) ∧ w'.cell? ⟨p, 4, none⟩ = some (.string d.str)) ∧ (w'.cell? ⟨q, 2, none⟩ = some (.int .i64 e.kind) ∧ w'.cell? ⟨q, 3, none⟩ = some (.float .f64 e.num) ∧ w'.cell? ⟨q, 4, none⟩ = some (.string e.str)))
    (first | (with_reducible exact S2) | go_keep)
    (first | (go_at_call 31; (with_reducible refine (CC.out _ (by first | exact hR | exact hR.drew | exact srt_drewN hR _)).mono ?_); rintro r W4 ⟨rfl, h4⟩; have b4 : Below W.heap.size W W4 := ⟨h4.os, h4.tape, h4.output, h4.size, h4.block⟩; have S2 := V.out _ b4; clear h4))
  all_goals
    clear S2 p2 p3 p4 q2 q3 q4
    go_wp2_with fail
    go_ret
    exact ⟨rfl, b4⟩
set_option maxRecDepth 100000 in
theorem byVal_grp {W : World} {a b p q : Nat} {d e : Dat} (hg : grp d - grp e ≠ 0 ∨ d.sub = true) (h1 : Blk W p (itC a d) 136) (h2 : Blk W q (itC b e) 136) :
    Calls Tryz.prog fByVal #[iptr p, iptr q] W fun r w' => r = .returned (.int .i64 (grp d - grp e)) ∧ Below W.heap.size W w' := by
  obtain ⟨-, -, -, -, p5⟩ := Itc.cells h1
  have C1 := group_any h1
  have C2 := group_any h2
  obtain ⟨s, hs⟩ : ∃ s, d.sub = s := ⟨_, rfl⟩
  rw [hs] at p5 hg
  obtain ⟨g, hgg⟩ : ∃ g, grp d = g := ⟨_, rfl⟩
  obtain ⟨k, hkk⟩ : ∃ g, grp e = g := ⟨_, rfl⟩
  have hgb : 0 ≤ g ∧ g ≤ 2 := by rcases grp_cases d with h | h | h <;> omega
  have hkb : 0 ≤ k ∧ k ≤ 2 := by rcases grp_cases e with h | h | h <;> omega
  rw [hgg] at C1 hg ⊢
  rw [hkk] at C2 hg ⊢
  have C1 := Lib.hid C1
  have C2 := Lib.hid C2
  clear h1 h2 hs hgg hkk
  by_cases h0 : g - k = 0
  · have hst : s = true := hg.resolve_left (fun h => h h0)
    subst hst
    obtain rfl : g = k := by omega
    clear h0 hg
    go_enter Tryz.func149, Tryz.ntmps149
    go_wp2_with fail
    refine (show Calls _ _ _ _ _ from C1.out).mono ?_
    rintro r w' ⟨rfl, rfl⟩
    go_wp2_with fail
    refine (show Calls _ _ _ _ _ from C2.out).mono ?_
    rintro r w' ⟨rfl, rfl⟩
    go_wp2_with fail
    go_ret
    exact ⟨by simp, Below.refl _ _⟩
  · have e1 : (g - k != 0) = true := by rw [bne_iff_ne]; exact h0
    clear h0 hg
    go_enter Tryz.func149, Tryz.ntmps149
    go_wp2_with fail
    refine (show Calls _ _ _ _ _ from C1.out).mono ?_
    rintro r w' ⟨rfl, rfl⟩
    go_wp2_with fail
    refine (show Calls _ _ _ _ _ from C2.out).mono ?_
    rintro r w' ⟨rfl, rfl⟩
    go_wp2_with fail
    go_ret
    exact ⟨rfl, Below.refl _ _⟩
end Go.Proofs.YtbbbdcohkfijoaaGreatDoor

namespace Go.Proofs.YtbbbdcohkfijoaaGreatDoor
open Go.RowKit Go.Lib

theorem cmp_byVal {w0 : World} {n : Nat} {d : Nat → Dat} (hT : PowTab w0) (hk : ∀ a, a < n → (d a).str.size ≤ 140737488355328) : CmpOf w0 w0.heap.size fByVal n d (fun a b => cvV (d a) (d b)) := by
  intro W a b p q ha hb hB h1 h2
  have s1 := hk a ha
  have s2 := hk b hb
  show Calls _ _ _ _ fun r w' => r = .returned (.int .i64 (cvV (d a) (d b))) ∧ Below W.heap.size W w'
  obtain ⟨x, hx⟩ : ∃ x, d a = x := ⟨_, rfl⟩
  obtain ⟨y, hy⟩ : ∃ x, d b = x := ⟨_, rfl⟩
  rw [hx] at h1 s1 ⊢
  rw [hy] at h2 s2 ⊢
  unfold cvV
  by_cases hg : grp x - grp y ≠ 0 ∨ x.sub = true
  · rw [if_pos hg]
    exact byVal_grp hg h1 h2
  · rw [if_neg hg]
    have hs : x.sub = false := by
      cases e : x.sub with
      | false => rfl
      | true => exact absurd (Or.inr e) hg
    have he : grp x = grp y := by
      by_cases e : grp x - grp y = 0
      · omega
      · exact absurd (Or.inl e) hg
    have gx : grp x = if x.kind = 2 then 1 else 0 := by unfold grp; rw [hs, if_neg (by decide)]
    by_cases hk2 : x.kind = 2
    · rw [if_pos hk2]
      rw [if_pos hk2] at gx
      have hy2 : y.kind = 2 := by
        rw [gx] at he
        unfold grp at he
        split at he
        · omega
        · split at he
          · assumption
          · omega
      refine byVal_go hs (by omega) h1 h2 fun W' hW' => ?_
      rw [hk2, hy2]
      have := cCompare_str 2 2 x.num y.num x.str y.str ⟨#[]⟩ ⟨#[]⟩ ⟨#[]⟩ W' (Or.inl rfl) (fun h => absurd h (by decide)) (fun h => absurd h (by decide)) (Lib.tabBelow_of_tabIs hT W' (hB.trans (hW'.mono hB.size)))
      exact this
    · rw [if_neg hk2]
      rw [if_neg hk2] at gx
      have hy2 : y.kind ≠ 2 := by
        intro h
        rw [gx] at he
        unfold grp at he
        rw [if_pos h] at he
        split at he <;> omega
      exact byVal_go hs (by omega) h1 h2 fun W' _ => cCompare_num x.kind y.kind x.num y.num x.str y.str ⟨#[]⟩ W' hk2 hy2 s1 s2
/-- A comparison that is one. -/
structure CmpW (cv : Nat → Nat → Int) : Prop where
  bd : ∀ a b, -10 ≤ cv a b ∧ cv a b ≤ 10
  sw : ∀ a b, cv b a = -cv a b
  tr : ∀ a b c, cv a b ≤ 0 → cv b c ≤ 0 → cv a c ≤ 0 ∧ (cv a c = 0 → cv a b = 0 ∧ cv b c = 0)
  eq : ∀ a b c, cv a b = 0 → cv b c = 0 → cv a c = 0
theorem CmpW.ord {cv : Nat → Nat → Int} {way : Int} (h : CmpW cv) (hw : way = 1 ∨ way = -1) : Ord (ltV cv way) :=
  ord_of hw (fun a b => by have := h.bd a b; omega) h.sw h.tr h.eq
theorem CmpW.zero : CmpW (fun _ _ => 0) := ⟨fun _ _ => by omega, fun _ _ => rfl, fun _ _ _ _ _ => ⟨Int.le_refl 0, fun _ => ⟨rfl, rfl⟩⟩, fun _ _ _ _ _ => rfl⟩
theorem CmpW.nums (k : Nat → Int) (hk : ∀ a, 0 ≤ k a ∧ k a ≤ 2) : CmpW (fun a b => k a - k b) :=
  ⟨fun a b => by have := hk a; have := hk b; omega, fun _ _ => by omega, fun _ _ _ _ _ => ⟨by omega, fun _ => by omega⟩, fun _ _ _ _ _ => by omega⟩
theorem CmpW.floats (k : Nat → Nat) : CmpW (fun a b => cmpN (k a) (k b)) := by
  refine ⟨fun a b => ?_, fun a b => ?_, fun a b c => ?_, fun a b c => ?_⟩
  all_goals
    simp only [cmpN_key]
  · split
    · omega
    · split <;> omega
  · rcases Int.lt_trichotomy (keyN (k a)) (keyN (k b)) with h | h | h
    · rw [if_neg (by omega), if_pos h, if_pos h]; rfl
    · rw [if_neg (by omega), if_neg (by omega), if_neg (by omega), if_neg (by omega)]; rfl
    · rw [if_pos h, if_neg (by omega), if_pos h]
  · generalize keyN (k a) = x
    generalize keyN (k b) = y
    generalize keyN (k c) = z
    intro h1 h2
    have q1 : x ≤ y := by
      rcases Int.lt_or_le y x with h | h
      · rw [if_neg (by omega), if_pos h] at h1; omega
      · exact h
    have q2 : y ≤ z := by
      rcases Int.lt_or_le z y with h | h
      · rw [if_neg (by omega), if_pos h] at h2; omega
      · exact h
    rcases Int.lt_or_le x z with h | h
    · rw [if_pos h]; exact ⟨by omega, fun e => by omega⟩
    · have e1 : x = y := by omega
      have e2 : y = z := by omega
      subst e1
      subst e2
      rw [if_neg (by omega), if_neg (by omega)]
      exact ⟨Int.le_refl 0, fun _ => ⟨rfl, rfl⟩⟩
  · generalize keyN (k a) = x
    generalize keyN (k b) = y
    generalize keyN (k c) = z
    intro h1 h2
    have q1 : x = y := by
      rcases Int.lt_trichotomy x y with h | h | h
      · rw [if_pos h] at h1; omega
      · exact h
      · rw [if_neg (by omega), if_pos h] at h1; omega
    have q2 : y = z := by
      rcases Int.lt_trichotomy y z with h | h | h
      · rw [if_pos h] at h2; omega
      · exact h
      · rw [if_neg (by omega), if_pos h] at h2; omega
    subst q1
    subst q2
    rw [if_neg (by omega), if_neg (by omega)]
theorem CmpW.bytes (k : Nat → List UInt8) : CmpW (fun a b => Lib.compareBytes (k a) (k b)) := by
  refine ⟨fun a b => ?_, fun a b => cb_swap _ _, fun a b c h1 h2 => ?_, fun a b c h1 h2 => ?_⟩
  · rcases (cmp_facts (k a) (k b)).2.2 with h | h | h <;> omega
  · have := cb_trans (k a) (k b) (k c) h1 h2
    exact ⟨this.1, this.2.2⟩
  · have := cb_trans (k a) (k b) (k c) (by omega) (by omega)
    exact this.2.1 ⟨h1, h2⟩
theorem CmpW.lex {c1 c2 : Nat → Nat → Int} (h : CmpW c1) (k : CmpW c2) : CmpW (fun a b => kcv (c1 a b) (c2 a b)) := by
  refine ⟨fun a b => ?_, fun a b => ?_, fun a b c => ?_, fun a b c => ?_⟩
  · have := h.bd a b
    have := k.bd a b
    unfold kcv
    split <;> omega
  · have h1 := h.sw a b
    have h2 := k.sw a b
    unfold kcv
    by_cases e : c1 a b = 0
    · rw [if_pos e, if_pos (by omega)]; exact h2
    · rw [if_neg e, if_neg (by omega)]; exact h1
  · have t1 := h.tr a b c
    have t2 := k.tr a b c
    have q1 := h.eq a b c
    unfold kcv
    intro h1 h2
    by_cases e1 : c1 a b = 0
    · rw [if_pos e1] at h1 ⊢
      by_cases e2 : c1 b c = 0
      · rw [if_pos e2] at h2 ⊢
        rw [if_pos (q1 e1 e2)]
        exact t2 h1 h2
      · rw [if_neg e2] at h2 ⊢
        have := t1 (by omega) h2
        by_cases e3 : c1 a c = 0
        · have := (this.2 e3).2; omega
        · rw [if_neg e3]
          exact ⟨this.1, fun e => absurd e e3⟩
    · rw [if_neg e1] at h1 ⊢
      by_cases e2 : c1 b c = 0
      · rw [if_pos e2] at h2 ⊢
        have := t1 h1 (by omega)
        by_cases e3 : c1 a c = 0
        · have := (this.2 e3).1; omega
        · rw [if_neg e3]
          exact ⟨this.1, fun e => absurd e e3⟩
      · rw [if_neg e2] at h2 ⊢
        have := t1 h1 h2
        by_cases e3 : c1 a c = 0
        · have := (this.2 e3).1; omega
        · rw [if_neg e3]
          exact ⟨this.1, fun e => absurd e e3⟩
  · have q1 := h.eq a b c
    have q2 := k.eq a b c
    have t1 := h.tr a b c
    unfold kcv
    intro h1 h2
    by_cases e1 : c1 a b = 0
    · rw [if_pos e1] at h1
      by_cases e2 : c1 b c = 0
      · rw [if_pos e2] at h2
        rw [if_pos (q1 e1 e2)]
        exact q2 h1 h2
      · rw [if_neg e2] at h2; exact absurd h2 e2
    · rw [if_neg e1] at h1; exact absurd h1 e1
noncomputable def strK (d : Dat) : List UInt8 := if grp d = 1 then d.str.data.toList else []
noncomputable def numK (d : Dat) : Nat := if grp d = 0 then numV2 d.kind d.num d.str else 0
theorem cvV_lex (d e : Dat) : cvV d e = kcv (grp d - grp e) (kcv (Lib.compareBytes (strK d) (strK e)) (cmpN (numK d) (numK e))) := by
  have z0 : cmpN 0 0 = 0 := by rw [cmpN_key, if_neg (by omega), if_neg (by omega)]
  have b0 : Lib.compareBytes [] [] = 0 := rfl
  have k0 : ∀ x, kcv x 0 = x := fun x => by unfold kcv; split <;> omega
  have k1 : ∀ x, kcv 0 x = x := fun x => if_pos rfl
  unfold cvV
  by_cases hg : grp d - grp e = 0
  · have he : grp e = grp d := by omega
    rw [hg, k1]
    unfold strK numK
    rw [he]
    by_cases hs : d.sub = true
    · have g2 : grp d = 2 := if_pos hs
      rw [if_pos (Or.inr hs), g2, if_neg (by omega), if_neg (by omega), if_neg (by omega), if_neg (by omega), b0, k1, z0]
    · rw [if_neg (by rintro (h | h); exact h rfl; exact hs h)]
      have gd : grp d = if d.kind = 2 then 1 else 0 := by unfold grp; rw [if_neg hs]
      by_cases hk : d.kind = 2
      · rw [if_pos hk] at gd
        rw [if_pos hk, gd, if_pos rfl, if_pos rfl, if_neg (by omega), if_neg (by omega), z0, k0]
      · rw [if_neg hk] at gd
        rw [if_neg hk, gd, if_neg (by omega), if_neg (by omega), if_pos rfl, if_pos rfl, b0, k1]
  · rw [if_pos (Or.inl hg)]
    unfold kcv
    rw [if_neg hg]
theorem cw_byVal (d : Nat → Dat) : CmpW (fun a b => cvV (d a) (d b)) := by
  have e : (fun a b => cvV (d a) (d b)) = fun a b => kcv (grp (d a) - grp (d b)) (kcv (Lib.compareBytes (strK (d a)) (strK (d b))) (cmpN (numK (d a)) (numK (d b)))) := by
    funext a b
    exact cvV_lex _ _
  rw [e]
  exact (CmpW.nums (fun a => grp (d a)) (fun a => by rcases grp_cases (d a) with h | h | h <;> omega)).lex ((CmpW.bytes fun a => strK (d a)).lex (CmpW.floats fun a => numK (d a)))
theorem cw_byKeyN (d : Nat → Dat) : CmpW (cvKeyN d) := (CmpW.floats fun a => (d a).num).lex (CmpW.bytes fun a => (d a).key.data.toList)
theorem cw_byKey (d : Nat → Dat) : CmpW (fun a b => Lib.compareBytes (d a).key.data.toList (d b).key.data.toList) := CmpW.bytes fun a => (d a).key.data.toList
end Go.Proofs.YtbbbdcohkfijoaaGreatDoor

namespace Go.Proofs.YtbbbdcohkfijoaaGreatDoor
open Go.RowKit Go.ChangeShapes Go.WideShapes

theorem mem_weightsAll {H : Type} {P : Program} {e : TypeId} {d : DataW H} {x : Nat} : ∀ {l : List (DataW H)}, d ∈ l → x ∈ DataW.weights P e d → x ∈ DataW.weightsAll P e l := by
  intro l
  induction l with
  | nil => intro h; cases h
  | cons d0 l ih =>
    intro h hx
    unfold DataW.weightsAll
    rcases List.mem_cons.1 h with rfl | h
    · exact List.mem_append_left _ hx
    · exact List.mem_append_right _ (ih h hx)
end Go.Proofs.YtbbbdcohkfijoaaGreatDoor

namespace Go.Proofs.YtbbbdcohkfijoaaGreatDoor
open Go.RowKit Go.ChangeShapes Go.WideShapes Go.Deep

section
variable {H : Type} {enc : TypeId × Value → H} {P : Program} {w : World} {base : Nat} {spare : Nat → Bool} {held : Bool}
theorem open_slice_fields {t e : TypeId} {fs : Array Field} {fuel : Nat} {cs : List Value} {x : DataW H × List MemPlace} (ht : P.underlying t = some (.slice e)) (he : P.underlying e = some (.struct fs))
    (hone : oneCellFields P fs = true) (hC : P.cellsOf e = fs.size) (h : DataW.trod enc P w base spare held fuel t cs = some x) :
    (cs = [.slice none 0 0] ∧ x = (.nil, [])) ∨
    ∃ (a : Addr) (len cap m : Nat) (D : Nat → DataW H) (Pl : Nat → List MemPlace), cs = [.slice (some a) len cap] ∧ base ≤ a.block ∧ len ≤ cap ∧ cap ≤ maxLen ∧ m = (if spare a.block then cap else len) ∧
      x = (.slice ((List.range len).map D) ((List.range (m - len)).map fun j => D (len + j)), MemPlace.row a (m * fs.size) ++ (List.range m).flatMap Pl) ∧
      ∀ i, i < m → ∃ (ys : List (DataW H × List MemPlace)) (n : Nat), D i = .agg (ys.map (·.1)) ∧ Pl i = ys.flatMap (·.2) ∧ ys.length = fs.size ∧
        ∀ (j : Nat) (f : Field), fs[j]? = some f → ∃ (v : Value) (y : DataW H × List MemPlace), w.cell? (a.add (i * fs.size + j)) = some v ∧ ys[j]? = some y ∧ DataW.trod enc P w base spare held n f.type [v] = some y := by
  rcases open_slice ht h with h0 | ⟨a, len, cap, m, n, D, Pl, hcs, hb, hl, hm, hmm, hx, hi⟩
  · exact .inl h0
  · refine .inr ⟨a, len, cap, m, D, Pl, hcs, hb, hl, hm, hmm, by rw [hC] at hx; exact hx, fun i him => ?_⟩
    obtain ⟨cs', hc, ht'⟩ := hi i him
    rw [hC] at hc
    obtain ⟨ys, n', hn', hy, hlen, hyl, hf⟩ := DataW.trod_struct he ht'
    obtain ⟨_, hcl, hat⟩ := World.cells?_some hc
    simp only [Prod.mk.injEq] at hy
    refine ⟨ys, n', hy.1, hy.2, hyl, fun j f hj => ?_⟩
    obtain ⟨ho, hk⟩ := hone_of hone j f hj
    have hjl : j < fs.size := (Array.getElem?_eq_some_iff.1 hj).1
    have hcell := hat j hjl
    have hv : cs'[j]? = some (cs'[j]'(by omega)) := List.getElem?_eq_getElem (by omega)
    have h1 := hf j f hj
    rw [ho, hk] at h1
    have hone' : (cs'.drop j).take 1 = [cs'[j]'(by omega)] := by
      rw [List.drop_eq_getElem_cons (by omega)]
      rfl
    rw [hone'] at h1
    have hys : ys[j]? = some (ys[j]'(by omega)) := List.getElem?_eq_getElem (by omega)
    refine ⟨_, _, ?_, hys, h1.trans hys⟩
    rw [← Go.Deep.add_add, hcell, hv]
end
/-- An item of the law. -/
structure ItD where
  key : ByteArray
  kind : Int
  bits : Int
  str : ByteArray
  sub : Bool
def ItD.cells (x : ItD) : List Value := [.string x.key, .int .i64 x.kind, .int .u64 x.bits, .string x.str, .bool x.sub]
def ItD.dat {H : Type} (x : ItD) : DataW H := .agg [.lit (.string x.key.data.toList), .lit (.int .i64 x.kind), .lit (.int .u64 x.bits), .lit (.string x.str.data.toList), .lit (.bool x.sub)]
def ItD.fine (x : ItD) : Prop := (Lit.int .i64 x.kind).wf = true ∧ (Lit.int .u64 x.bits).wf = true
/-- Its items lie there. -/
def RdI (W : World) (A : Option Addr) (es : List ItD) : Prop := ∀ j (_ : j < es.length), ∃ b off, A = some ⟨b, off, none⟩ ∧ ∀ i, i < 5 → W.cell? ⟨b, off + j * 5 + i, none⟩ = es[j].cells[i]?
theorem RdI.below {W W' : World} {A : Option Addr} {es : List ItD} {B : Nat} (h : RdI W A es) (hB : W.heap.size ≤ B) (hb : Below B W W') : RdI W' A es := fun j hj => by
  obtain ⟨b, off, e, hc⟩ := h j hj
  refine ⟨b, off, e, fun i hi => ?_⟩
  have h1 := hc i hi
  have h2 : es[j].cells[i]? = some (es[j].cells[i]'(by simpa [ItD.cells] using hi)) := List.getElem?_eq_getElem _
  have hl := World.block_lt_of_cell? W _ (h1.trans h2)
  exact (hb.cell (p := ⟨b, off + j * 5 + i, none⟩) (by simp at hl ⊢; omega)).trans h1
theorem cells_item : Tryz.prog.cellsOf 123 = 5 := by kernel_rfl
set_option maxRecDepth 100000 in
theorem open_itemsA {H : Type} {enc : TypeId × Value → H} {W : World} {v : Value} {d : DataW H} {p : List MemPlace} {base : Nat} (hv : Value.okWide Tryz.prog W .any base 52 v) (h : DataW.Trod enc Tryz.prog W 0 (fun _ => true) true 52 v d p) :
    ∃ (A : Option Addr) (cap : Nat) (es : List ItD), v = .slice A es.length cap ∧ es.length ≤ cap ∧ cap ≤ maxLen ∧ RdI W A es ∧ (∀ x ∈ es, x.fine) ∧ ((∀ z ∈ DataW.weights Tryz.prog 52 d, z ≤ 140737488351232) → ∀ x ∈ es, x.key.size ≤ 140737488351232 ∧ x.str.size ≤ 140737488351232) := by
  obtain ⟨a0, len, cap, rfl⟩ := okWide_slice Tryz.underlying52 hv
  obtain ⟨fuel, hf⟩ := h
  rcases open_slice_fields Tryz.underlying52 Tryz.underlying123 (by kernel_rfl) cells_item hf with ⟨hcs, hx⟩ | ⟨a, len', cap', m, D, Pl, hcs, _, hl, hm, hmm, hx, hi⟩
  · simp [Value.cells] at hcs
    obtain ⟨rfl, rfl, rfl⟩ := hcs
    exact ⟨none, 0, [], rfl, Nat.le_refl _, Nat.zero_le _, fun j hj => absurd hj (Nat.not_lt_zero _), fun x hx => (by cases hx), fun _ x hx => (by cases hx)⟩
  · simp [Value.cells] at hcs
    obtain ⟨rfl, rfl, rfl⟩ := hcs
    simp only [if_true] at hmm
    subst hmm
    simp only [Prod.mk.injEq] at hx
    obtain ⟨rfl, rfl⟩ := hx
    have each : ∀ i, i < m → ∃ x : ItD, (∀ j, j < 5 → W.cell? (a.add (i * 5 + j)) = x.cells[j]?) ∧ D i = x.dat ∧ x.fine := fun i him => by
      obtain ⟨ys, n, hD, _, hyl, hf⟩ := hi i him
      obtain ⟨v0, y0, c0, e0, t0⟩ := hf 0 _ rfl
      obtain ⟨v1, y1, c1, e1, t1⟩ := hf 1 _ rfl
      obtain ⟨v2, y2, c2, e2, t2⟩ := hf 2 _ rfl
      obtain ⟨v3, y3, c3, e3, t3⟩ := hf 3 _ rfl
      obtain ⟨v4, y4, c4, e4, t4⟩ := hf 4 _ rfl
      match ys, hyl with
      | [z0, z1, z2, z3, z4], _ =>
        simp at e0 e1 e2 e3 e4
        subst e0 e1 e2 e3 e4
        obtain ⟨s0, h0, q0, _⟩ := DataW.trod_string Tryz.underlying9 t0
        obtain ⟨k1, h1, q1, w1⟩ := DataW.trod_int Tryz.underlying3 t1
        obtain ⟨k2, h2, q2, w2⟩ := DataW.trod_int Tryz.underlying22 t2
        obtain ⟨s3, h3, q3, _⟩ := DataW.trod_string Tryz.underlying9 t3
        obtain ⟨b4, h4, q4⟩ := DataW.trod_bool Tryz.underlying4 t4
        simp at h0 h1 h2 h3 h4
        subst h0 h1 h2 h3 h4
        refine ⟨⟨s0, k1, k2, s3, b4⟩, fun j hj => ?_, by rw [hD, q0, q1, q2, q3, q4]; rfl, w1, w2⟩
        match j, hj with
        | 0, _ => exact c0
        | 1, _ => exact c1
        | 2, _ => exact c2
        | 3, _ => exact c3
        | 4, _ => exact c4
    have inh : Inhabited ItD := ⟨⟨⟨#[]⟩, 0, 0, ⟨#[]⟩, false⟩⟩
    obtain ⟨Sx, hS⟩ := choose_lt each
    have hlen : ((List.range len).map Sx).length = len := by rw [List.length_map, List.length_range]
    refine ⟨some a, m, (List.range len).map Sx, by rw [hlen], by rw [hlen]; exact hl, hm, ?_, ?_, ?_⟩
    · intro j hj
      rw [hlen] at hj
      obtain ⟨b, off, spot⟩ := a
      have h0 := (hS j (by omega)).1
      have hspot : spot = none := by
        have := (hS 0 (by omega)).1 0 (by omega)
        simpa [Addr.add] using World.cell?_spot (this.trans (show (Sx 0).cells[0]? = some _ from rfl))
      subst hspot
      refine ⟨b, off, rfl, fun i hi => ?_⟩
      have := h0 i hi
      rw [Go.WideShapes.add_plain] at this
      rw [show off + j * 5 + i = off + (j * 5 + i) by omega, this]
      simp
    · intro x hx
      obtain ⟨i, hi, rfl⟩ := List.mem_map.1 hx
      exact (hS i (by have := List.mem_range.1 hi; omega)).2.2
    · intro hz x hx
      obtain ⟨i, hi, rfl⟩ := List.mem_map.1 hx
      have hil := List.mem_range.1 hi
      have key : ∀ s ∈ [(Sx i).key, (Sx i).str], s.size ≤ 140737488351232 := fun s hs => by
        have e : s.size = s.data.toList.length := by rw [Array.length_toList]; rfl
        rw [e]
        apply hz
        unfold DataW.weights
        rw [Tryz.underlying52]
        refine List.mem_cons_of_mem _ (List.mem_append_left _ ?_)
        refine mem_weightsAll (List.mem_map.2 ⟨i, hi, rfl⟩) ?_
        rw [(hS i (by omega)).2.1]
        unfold ItD.dat DataW.weights
        rw [Tryz.underlying123]
        simp [DataW.weightsEach, DataW.weights]
        rcases List.mem_cons.1 hs with rfl | hs
        · exact Or.inl rfl
        · rw [List.mem_singleton] at hs; subst hs; exact Or.inr rfl
      exact ⟨key _ (by simp), key _ (by simp)⟩
end Go.Proofs.YtbbbdcohkfijoaaGreatDoor

namespace Go.Proofs.YtbbbdcohkfijoaaGreatDoor
open Go.RowKit Go.Lib

/-- The entry of an item. -/
def ItD.ent (x : ItD) : Dat := ⟨x.key, x.kind, x.bits.toNat, x.str, x.sub⟩
theorem info_entry : (Tryz.prog.info? 61).map (fun i => (i.zero, i.size, i.bytes)) = some (some (.agg #[.string ⟨#[]⟩, .int .i64 0, .float .f64 0, .string ⟨#[]⟩, .bool false]), 5, 56) := by kernel_rfl
/-- The cells of entries, one behind the other. -/
def entsC (l : List Dat) : List Value := l.flatMap enC
theorem entsC_snoc (l : List Dat) (x : Dat) : entsC (l ++ [x]) = entsC l ++ enC x := by
  unfold entsC
  rw [List.flatMap_append]
  simp
theorem entsC_at {l : List Dat} {j i : Nat} (hj : j < l.length) (hi : i < 5) : (entsC l)[j * 5 + i]? = (enC l[j])[i]? := by
  unfold entsC
  induction l generalizing j with
  | nil => cases hj
  | cons x l ih =>
    rw [List.flatMap_cons]
    cases j with
    | zero =>
      rw [List.getElem?_append_left (by simp [enC]; omega)]
      simp
    | succ j =>
      have h5 : (enC x).length = 5 := rfl
      rw [List.getElem?_append_right (by rw [h5]; omega), h5, show (j + 1) * 5 + i - 5 = j * 5 + i by omega]
      exact ih (by simp at hj; omega)
theorem row_new (w : World) (cs : Array Value) (t : TypeId) : ∀ j u, cs.toList[j]? = some u → (w.alloc (.cells cs t)).cell? ((⟨w.heap.size, 0, none⟩ : Addr).add j) = some u := fun j u hu => by
  have hb : Blk (w.alloc (.cells cs t)) w.heap.size cs t := ⟨World.alloc_heap_new w _⟩
  rw [show ((⟨w.heap.size, 0, none⟩ : Addr).add j) = ⟨w.heap.size, j, none⟩ by rw [Go.WideShapes.add_plain, Nat.zero_add], hb.cell]
  simpa using hu
set_option maxRecDepth 100000 in
set_option maxHeartbeats 4000000 in
theorem made_any (A : Option Addr) (cap : Nat) (es : List ItD) (w : World) (hl : es.length ≤ 300) (hR : RdI w A es) (hf : ∀ x ∈ es, x.fine) :
    Calls Tryz.prog 34 #[.slice A es.length cap] w fun e w' => ∃ v, e = .returned v ∧ w'.ownsRow w.heap.size 61 5 v es.length (entsC (es.map ItD.ent)) ∧ Below w.heap.size w w' := by
  obtain ⟨i0, hi, hz0, hz1, hz2⟩ := info_parts info_entry
  have HR := Lib.hid hR
  have HF := Lib.hid hf
  obtain ⟨n, hn⟩ : ∃ n, es.length = n := ⟨_, rfl⟩
  have HN := Lib.hid hn
  rw [hn] at hl ⊢
  clear hR hf hn
  go_enter Tryz.func34, Tryz.ntmps34
  go_wp2
  go_loopw [3, 8] (fun sv kv wr => ∃ (v : Value) (k : Nat), v = sv ∧ kv = .int .i64 (k : Int) ∧ k ≤ n ∧ wr.ownsRow w.heap.size 61 5 v k (entsC ((es.take k).map ItD.ent)) ∧ Below w.heap.size w wr) (fun _ kv _ => n - (RowKit.intOf kv).toNat)
  case atStart => exact ⟨_, 0, rfl, rfl, Nat.zero_le _, World.ownsRow_nil _ _ _ _, Below.refl _ _⟩
  case round =>
    obtain ⟨v, k, rfl, rfl, hk, hO, hB⟩ := hrel
    by_cases hlt : k < n
    · have hkl : k < es.length := by rw [HN.out]; exact hlt
      obtain ⟨b, off, hA, hcl⟩ := HR.out k hkl
      subst hA
      obtain ⟨w1, w2⟩ := HF.out _ (List.getElem_mem hkl)
      obtain ⟨x, hx⟩ : ∃ x, es[k] = x := ⟨_, rfl⟩
      rw [hx] at hcl w1 w2
      have hcw : ∀ i, i < 5 → wr.cell? ⟨b, off + k * 5 + i, none⟩ = x.cells[i]? := fun i hi => by
        have h1 := hcl i hi
        have h2 : x.cells[i]? = some (x.cells[i]'(by simpa [ItD.cells] using hi)) := List.getElem?_eq_getElem _
        have hl := World.block_lt_of_cell? w _ (h1.trans h2)
        exact (hB.cell (p := ⟨b, off + k * 5 + i, none⟩) hl).trans h1
      obtain ⟨q0, q1⟩ := bounds_u64 w2
      obtain ⟨nb, hnb⟩ : ∃ nb : Nat, x.bits = (nb : Int) := ⟨x.bits.toNat, by omega⟩
      have k0 : wr.cell? ⟨b, off + k * 5, none⟩ = some (.string x.key) := hcw 0 (by omega)
      have k1 : wr.cell? ⟨b, off + k * 5 + 1, none⟩ = some (.int .i64 x.kind) := hcw 1 (by omega)
      have k2 : wr.cell? ⟨b, off + k * 5 + 2, none⟩ = some (.int .u64 x.bits) := hcw 2 (by omega)
      have k3 : wr.cell? ⟨b, off + k * 5 + 3, none⟩ = some (.string x.str) := hcw 3 (by omega)
      have k4 : wr.cell? ⟨b, off + k * 5 + 4, none⟩ = some (.bool x.sub) := hcw 4 (by omega)
      rw [hnb] at k2
      have hfr := run_f64from nb
      have hst := srt_store_float
      clear hcl hcw w1 w2
      have hbl := hB.size
      have hnx : v.ownBlock ≠ some wr.heap.size := fun e => by
        rcases hO.2 with ⟨e0, _⟩ | ⟨q', cap', cur, e0, _, hq, _⟩
        · rw [e0] at e; simp [Value.ownBlock] at e
        · rw [e0] at e
          simp [Value.ownBlock] at e
          subst e
          have := (Array.getElem?_eq_some_iff.1 hq).1
          omega
      have ow := fun (c1 c2 : Array Value) (h2 : c2.toList = enC x.ent) => run_append_own_at (P := Tryz.prog) (((wr.alloc (.cells c1 123)).drew).alloc (.cells c2 61)) w.heap.size 53 53 61 i0 _ 5 56 Tryz.underlying53 hi hz0 hz1 hz2 rfl (by decide) v k _ ((hO.alloc _).drew.alloc _) ⟨wr.heap.size + 1, 0, none⟩ 1 1 (enC x.ent) rfl (fun j u hu => by have := row_new ((wr.alloc (.cells c1 123)).drew) c2 61 j u (by rw [h2]; exact hu); simpa [World.drew] using this) (by simp [enC, Value.oneCell']) (by unfold maxLen; omega) (by omega) (by simp; omega)
      obtain ⟨v', w2, hr, hown2, hgrow, _, hloc⟩ := ow #[.string x.key, .int .i64 x.kind, .int .u64 (nb : Int), .string x.str, .bool x.sub] #[.string x.key, .int .i64 x.kind, .float .f64 nb, .string x.str, .bool x.sub] (by simp [enC, ItD.ent, hnb])
      have HK2 : w2.cell? ⟨wr.heap.size, 0, none⟩ = some (.string x.key) ∧ w2.cell? ⟨wr.heap.size, 1, none⟩ = some (.int .i64 x.kind) ∧ w2.cell? ⟨wr.heap.size, 2, none⟩ = some (.int .u64 nb) ∧ w2.cell? ⟨wr.heap.size, 3, none⟩ = some (.string x.str) ∧ w2.cell? ⟨wr.heap.size, 4, none⟩ = some (.bool x.sub) := by
        have hx5 := fun i => hgrow.cell_far ⟨wr.heap.size, i, none⟩ (by simp; omega) (fun e => hnx e.symm)
        have hc5 : ∀ i, (((wr.alloc (.cells #[.string x.key, .int .i64 x.kind, .int .u64 (nb : Int), .string x.str, .bool x.sub] 123)).drew).alloc (.cells #[.string x.key, .int .i64 x.kind, .float .f64 nb, .string x.str, .bool x.sub] 61)).cell? ⟨wr.heap.size, i, none⟩ = #[Value.string x.key, .int .i64 x.kind, .int .u64 (nb : Int), .string x.str, .bool x.sub][i]? := fun i =>
          (Blk.alloc (W := (wr.alloc (.cells #[.string x.key, .int .i64 x.kind, .int .u64 (nb : Int), .string x.str, .bool x.sub] 123)).drew) ⟨heap_alloc_new wr _⟩ _).cell i
        exact ⟨(hx5 0).trans (hc5 0), (hx5 1).trans (hc5 1), (hx5 2).trans (hc5 2), (hx5 3).trans (hc5 3), (hx5 4).trans (hc5 4)⟩
      have HR2 := Lib.hid hr
      have HO2 := Lib.hid hown2
      have HG2 := Lib.hid hgrow
      clear ow hr hown2 hgrow
      go_wp2_with fail
      go_region_held_law? (fun w' => w'.cell? ⟨wr.heap.size, 0, none⟩ = some (.string x.key) ∧ w'.cell? ⟨wr.heap.size, 1, none⟩ = some (.int .i64 x.kind) ∧ w'.cell? ⟨wr.heap.size, 2, none⟩ = some (.int .u64 nb) ∧ w'.cell? ⟨wr.heap.size, 3, none⟩ = some (.string x.str) ∧ w'.cell? ⟨wr.heap.size, 4, none⟩ = some (.bool x.sub)) (first | go_keep | exact HK2) (refine step_append_val rfl (.tmp 12) (.tmp 26) 53 53 rfl v (by simp [Act.eval]) (.slice (some ⟨wr.heap.size + 1, 0, none⟩) 1 1) (by simp [Act.eval]) v' w2 HR2.out ?_)
      all_goals
        clear hnx HK2 k0 k1 k2 k3 k4 hfr hst
        go_wp2_with fail
        refine ⟨⟨v', k + 1, rfl, rfl, by omega, ?_, ?_⟩, ?_⟩
        · rw [List.take_succ_eq_append_getElem hkl, List.map_append, hx, List.map_cons, List.map_nil, entsC_snoc]
          exact HO2.out
        · refine Below.grown (((hB.alloc hbl _).drew).alloc (by simp; omega) _) HG2.out (by simp; omega) (fun q hq => ?_)
          rcases hO.2 with ⟨e0, _⟩ | ⟨q', cap', cur, e0, hq2, _⟩
          · rw [e0] at hq; simp [Value.ownBlock] at hq
          · rw [e0] at hq
            simp [Value.ownBlock] at hq
            subst hq
            exact hq2
        · simp [RowKit.intOf]
          omega
    · have hkn : k = n := by omega
      subst hkn
      rw [show es.take k = es by rw [← HN.out, List.take_length]] at hO
      go_wp2_with fail
      go_ret
      exact ⟨_, rfl, hO, hB⟩
end Go.Proofs.YtbbbdcohkfijoaaGreatDoor

namespace Go.Proofs.YtbbbdcohkfijoaaGreatDoor
open Go.RowKit Go.Lib

/-- The bytes of a code. -/
def textB (c : Int) : ByteArray :=
  if 1114112 ≤ c ∧ c < 1114368 then ⟨#[UInt8.ofNat (c - 1114112).toNat]⟩ else if Lib.validRune c then Utf8.encode c else ⟨#[]⟩
end Go.Proofs.YtbbbdcohkfijoaaGreatDoor

namespace Go.Proofs.YtbbbdcohkfijoaaGreatDoor
open Go.Lib

/-- The character at byte i of s: its code and how many bytes it has. -/
def chN (n b0 b1 b2 b3 : Nat) : Nat × Nat := if decodeN n b0 b1 b2 b3 = (65533, 1) then (1114112 + b0, 1) else decodeN n b0 b1 b2 b3
def chS (s : ByteArray) (i : Nat) : Nat × Nat := chN (s.size - i) (s.get! i).toNat (s.get! (i + 1)).toNat (s.get! (i + 2)).toNat (s.get! (i + 3)).toNat

/-- What Next answers. -/
def nextZ (s : ByteArray) (i : Int) (b : Bool) : Nat × Nat :=
  if i < 0 ∨ (s.size : Int) ≤ i then (0, 0) else if b then ((s.get! i.toNat).toNat, 1) else chS s i.toNat


theorem get!_lt (s : ByteArray) (i : Nat) (h : i < s.size) : s[i] = s.get! i := (Utf8W.get!_of_lt s i h).symm

theorem get!_lt256 (s : ByteArray) (i : Nat) : (s.get! i).toNat < 256 := by
  have := UInt8.toNat_lt (s.get! i)
  omega
/-! What 'size' reckons is what the library decodes. -/
end Go.Proofs.YtbbbdcohkfijoaaGreatDoor

namespace Go.Proofs.YtbbbdcohkfijoaaGreatDoor
open Go.Lib

/-- How many bytes the character at a place has (0 past the end). -/
def wid (s : ByteArray) (b : Bool) (i : Nat) : Nat := (nextZ s (i : Int) b).2
def uCod (s : ByteArray) (b : Bool) (i : Nat) : Nat := (nextZ s (i : Int) b).1
/-- The place of the k-th character (from 0 on), or the length. -/
def pl (s : ByteArray) (b : Bool) : Nat → Nat
  | 0 => 0
  | k + 1 => pl s b k + wid s b (pl s b k)

end Go.Proofs.YtbbbdcohkfijoaaGreatDoor

namespace Go.Proofs.YtbbbdcohkfijoaaGreatDoor
open Go.RowKit Go.Lib Go.Shelf
attribute [local go_sem] Oper.semAt_some

/-- What stands for the k-th character when its code is changed by f. -/
def piece (s : ByteArray) (b : Bool) (f : Int → Int) (k : Nat) : List UInt8 :=
  if f (uCod s b (pl s b k)) = uCod s b (pl s b k) then (s.data.toList.drop (pl s b k)).take (wid s b (pl s b k)) else (textB (f (uCod s b (pl s b k)))).data.toList
end Go.Proofs.YtbbbdcohkfijoaaGreatDoor

namespace Go.Proofs.YtbbbdcohkfijoaaGreatDoor
open Go.RowKit Go.Lib

theorem srt_itoa_len (z : Int) (h : z.natAbs < 10 ^ 20) : (Lib.itoa z).length ≤ 100 := by
  unfold Lib.itoa
  split
  · rw [decD, List.length_cons]
    have := (decs_len (n := z.natAbs) (k := 20) h (by omega)).2
    omega
  · rw [decD]
    have := (decs_len (n := z.toNat) (k := 20) (by omega) (by omega)).2
    omega
theorem conv6_len (w : World) {x : Nat} (hb : x < 18446744073709551616) : (conv6 x).length ≤ 100000 := by
  unfold conv6
  cases hw : wholeB x 4846369599423283200 with
  | true =>
    rw [if_pos rfl]
    have hlt : mag x < 4846369599423283200 := by
      unfold wholeB at hw
      exact of_decide_eq_true (Bool.and_eq_true_iff.1 hw).1
    have hq := whQ_lt hlt e16_V
    have hz := whZ_bd _ hq
    exact Nat.le_trans (srt_itoa_len _ (by omega)) (by omega)
  | false =>
    rw [if_neg (by decide)]
    cases ho : oddL x with
    | some n =>
      show n.length ≤ 100000
      have : n.length = 4 := by
        unfold oddL at ho
        split at ho
        · cases ho; rfl
        · split at ho
          · cases ho; rfl
          · split at ho <;> cases ho
            rfl
      omega
    | none => exact pointT_len w (mag_odd hb ho) (by omega) (by omega) (by omega) (by omega)
/-- What an item's value is as a string, by "%.6g". -/
noncomputable def wrD (d : Dat) : ByteArray := wrT d.kind d.str ⟨(conv6 d.num).toArray⟩
noncomputable def rdWrite (d : Dat) : Dat := { d with kind := 2, num := 0, str := wrD d }
theorem wrD_size (w : World) {d : Dat} (hn : d.num < 18446744073709551616) (hs : d.str.size ≤ 140737488355328) : (wrD d).size ≤ 140737488355328 := by
  unfold wrD wrT
  have h6 : (⟨(conv6 d.num).toArray⟩ : ByteArray).size ≤ 100000 := by
    have := conv6_len w hn
    simpa [ByteArray.size] using this
  split
  · omega
  · split
    · exact hs
    · show (0 : Nat) ≤ _
      omega
set_option maxRecDepth 100000 in
theorem readies_write (w0 : World) (n : Nat) (es : Nat → Dat) (hT : PowTab w0) (hk : ∀ a, a < n → (es a).num < 18446744073709551616 ∧ (es a).str.size ≤ 140737488355328) : Readies w0 w0.heap.size fWrite p6g n es (fun a => rdWrite (es a)) := by
  intro W b a ha hB h
  have hk := hk a ha
  obtain ⟨d, hd⟩ : ∃ d, es a = d := ⟨_, rfl⟩
  rw [hd] at h hk
  show Calls _ _ _ _ fun e w' => (∃ r, e = .returned r) ∧ Blk w' b (itC a (rdWrite (es a))) 136 ∧ W.grownBy w' (some b)
  rw [hd]
  obtain ⟨-, p2, p3, p4, -⟩ := Itc.cells h
  have hTW : PowTab W := Lib.tabBelow_of_tabIs hT W hB
  have C1 := Lib.hid (cString_any d.kind d.num d.str p6g ⟨(conv6 d.num).toArray⟩ W (fun _ W' hW' => conv_6g d.num W' hk.1 hW') hTW (wrD_size W hk.1 hk.2))
  obtain ⟨T, hT2⟩ : ∃ T, wrD d = T := ⟨_, rfl⟩
  have H := Lib.hid h
  have hst := srt_store_float
  unfold rdWrite
  rw [show wrT d.kind d.str ⟨(conv6 d.num).toArray⟩ = T from hT2] at C1
  rw [hT2]
  clear h hd hk hT2 hT hTW hB
  go_enter Tryz.func148, Tryz.ntmps148
  go_wp2_with fail
  refine C1.out.mono ?_
  rintro e W2 ⟨rfl, h2⟩
  have k3 := H.out.below h2 H.out.lt
  obtain ⟨z1, z2⟩ := itc_set k3 (srt_grown_below h2) 2 0 T
  obtain ⟨-, c2, c3, c4, -⟩ := Itc.cells k3
  have f2 := k3.fro 2
  have f3 := k3.fro 3
  have f4 := k3.fro 4
  have Z := Lib.hid (And.intro z1 z2)
  clear z1 z2 k3 h2 p2 p3 p4
  go_wp2_with fail
  go_end0
  exact ⟨⟨_, rfl⟩, Z.out⟩
def d00 : Dat := ⟨⟨#[]⟩, 0, 0, ⟨#[]⟩, false⟩
/-- What the entries of a sort are like. -/
def Fits (es : List Dat) : Prop := ∀ x ∈ es, x.num < 18446744073709551616 ∧ x.key.size ≤ 140737488351232 ∧ x.str.size ≤ 140737488351232
/-- Order, by any order that is known: by one comparison of entries. -/
def OrderBy (how conv : ByteArray) (c : Dat → Dat → Int) (way : Int) : Prop :=
  (way = 1 ∨ way = -1) ∧ (∀ d : Nat → Dat, CmpW fun a b => c (d a) (d b)) ∧
  ∀ (A : Option Addr) (cap : Nat) (es : List Dat) (w : World), es.length ≤ 1000 → RdE w A es → PowTab w → Fits es →
    Calls Tryz.prog 35 #[.slice A es.length cap, .string how, .string conv] w (OrdEnd w es.length (ltV (fun a b => c (es.getD a d00) (es.getD b d00)) way))
theorem fits_at {es : List Dat} (h : Fits es) : ∀ a, a < es.length → (es.getD a d00).num < 18446744073709551616 ∧ (es.getD a d00).key.size ≤ 140737488351232 ∧ (es.getD a d00).str.size ≤ 140737488351232 := fun a ha => by
  rw [List.getD_eq_getElem?_getD, List.getElem?_eq_getElem ha]
  exact h _ (List.getElem_mem ha)
theorem ord_unsorted (conv : ByteArray) : OrderBy n0 conv (fun _ _ => 0) 1 :=
  ⟨Or.inl rfl, fun _ => CmpW.zero, fun _ _ _ w hl hR _ _ => order_yes (by unfold ordT; simp) (by decide) hl hR (CmpW.zero.ord (Or.inl rfl)) en_leave en_alike (readies_leave w _ _ _ _) (cmp_alike w _ _ _)⟩
theorem ord_key {how : ByteArray} {way : Int} (conv : ByteArray) (hh : (how, fLeave, fByKey, way) ∈ ordT) (hs : how.size ≤ maxLen) (hw : way = 1 ∨ way = -1) : OrderBy how conv (fun d e => Lib.compareBytes d.key.data.toList e.key.data.toList) way :=
  ⟨hw, fun d => cw_byKey d, fun _ _ _ w hl hR _ _ => order_yes hh hs hl hR ((cw_byKey _).ord hw) en_leave en_byKey (readies_leave w _ _ _ _) (cmp_byKey w _ _ _)⟩
noncomputable def cKeyN (d e : Dat) : Int := kcv (cmpN (rdKey d).num (rdKey e).num) (Lib.compareBytes d.key.data.toList e.key.data.toList)
theorem ord_keyN {how : ByteArray} {way : Int} (conv : ByteArray) (hh : (how, fCountKey, fByKeyN, way) ∈ ordT) (hs : how.size ≤ maxLen) (hw : way = 1 ∨ way = -1) : OrderBy how conv cKeyN way :=
  ⟨hw, fun d => cw_byKeyN (fun a => rdKey (d a)), fun _ _ es w hl hR _ hF => order_yes hh hs hl hR ((cw_byKeyN fun a => rdKey (es.getD a d00)).ord hw) en_countKey en_byKeyN (readies_countKey w _ _ _ _ (fun a ha => Nat.le_trans (fits_at hF a ha).2.1 (by omega))) (cmp_byKeyN w _ _ _)⟩
theorem ord_write {how : ByteArray} {way : Int} (hh : (how, fWrite, fByVal, way) ∈ ordT) (hs : how.size ≤ maxLen) (hw : way = 1 ∨ way = -1) : OrderBy how p6g (fun d e => cvV (rdWrite d) (rdWrite e)) way :=
  ⟨hw, fun d => cw_byVal (fun a => rdWrite (d a)), fun _ _ es w hl hR hT hF => order_yes hh hs hl hR ((cw_byVal fun a => rdWrite (es.getD a d00)).ord hw) en_write en_byVal (readies_write w _ _ hT (fun a ha => ⟨(fits_at hF a ha).1, Nat.le_trans (fits_at hF a ha).2.2 (by omega)⟩)) (cmp_byVal hT fun a ha => wrD_size w (fits_at hF a ha).1 (Nat.le_trans (fits_at hF a ha).2.2 (by omega)))⟩
theorem ord_count {how : ByteArray} {way : Int} (conv : ByteArray) (hh : (how, fCount, fByVal, way) ∈ ordT) (hs : how.size ≤ maxLen) (hw : way = 1 ∨ way = -1) : OrderBy how conv (fun d e => cvV (rdNum d) (rdNum e)) way :=
  ⟨hw, fun d => cw_byVal (fun a => rdNum (d a)), fun _ _ es w hl hR hT hF => order_yes hh hs hl hR ((cw_byVal fun a => rdNum (es.getD a d00)).ord hw) en_count en_byVal (readies_count w _ _ _ _ (fun a ha => Nat.le_trans (fits_at hF a ha).2.2 (by omega))) (cmp_byVal hT fun a _ => (show (0 : Nat) ≤ _ by omega))⟩
theorem ord_val {how : ByteArray} {way : Int} (conv : ByteArray) (hh : (how, fLeave, fByVal, way) ∈ ordT) (hs : how.size ≤ maxLen) (hw : way = 1 ∨ way = -1) : OrderBy how conv cvV way :=
  ⟨hw, fun d => cw_byVal d, fun _ _ es w hl hR hT hF => order_yes hh hs hl hR ((cw_byVal fun a => es.getD a d00).ord hw) en_leave en_byVal (readies_leave w _ _ _ _) (cmp_byVal hT fun a ha => Nat.le_trans (fits_at hF a ha).2.2 (by omega))⟩
/-- Every order of the table. -/
theorem order_all {how : ByteArray} {fr fc : FuncId} {way : Int} (h : (how, fr, fc, way) ∈ ordT) : ∃ c way', OrderBy how p6g c way' := by
  have h' := h
  unfold ordT at h
  simp only [List.mem_cons, List.not_mem_nil, or_false, Prod.mk.injEq] at h
  rcases h with ⟨rfl, rfl, rfl, rfl⟩ | ⟨rfl, rfl, rfl, rfl⟩ | ⟨rfl, rfl, rfl, rfl⟩ | ⟨rfl, rfl, rfl, rfl⟩ | ⟨rfl, rfl, rfl, rfl⟩ | ⟨rfl, rfl, rfl, rfl⟩ | ⟨rfl, rfl, rfl, rfl⟩ | ⟨rfl, rfl, rfl, rfl⟩ | ⟨rfl, rfl, rfl, rfl⟩ | ⟨rfl, rfl, rfl, rfl⟩ | ⟨rfl, rfl, rfl, rfl⟩
  · exact ⟨_, _, ord_unsorted _⟩
  · exact ⟨_, _, ord_key _ h' (by decide) (Or.inl rfl)⟩
  · exact ⟨_, _, ord_key _ h' (by decide) (Or.inr rfl)⟩
  · exact ⟨_, _, ord_keyN _ h' (by decide) (Or.inl rfl)⟩
  · exact ⟨_, _, ord_keyN _ h' (by decide) (Or.inr rfl)⟩
  · exact ⟨_, _, ord_write h' (by decide) (Or.inl rfl)⟩
  · exact ⟨_, _, ord_write h' (by decide) (Or.inr rfl)⟩
  · exact ⟨_, _, ord_count _ h' (by decide) (Or.inl rfl)⟩
  · exact ⟨_, _, ord_count _ h' (by decide) (Or.inr rfl)⟩
  · exact ⟨_, _, ord_val _ h' (by decide) (Or.inl rfl)⟩
  · exact ⟨_, _, ord_val _ h' (by decide) (Or.inr rfl)⟩
set_option maxRecDepth 100000 in
/-- Known, of a name that is none. -/
theorem known_no (how : ByteArray) (w : World) (hh : ∀ fr fc way, (how, fr, fc, way) ∉ ordT) (hs : how.size ≤ maxLen) :
    Calls Tryz.prog 36 #[.string how] w fun e w' => e = .returned (.bool false) ∧ Below w.heap.size w w' := by
  have CO := Lib.hid (orders_any w)
  have HH := Lib.hid hh
  have HS := Lib.hid hs
  clear hh hs
  go_enter Tryz.func36, Tryz.ntmps36
  go_wp2_with fail
  refine CO.out.mono ?_
  rintro e W1 ⟨rfl, hm, hb⟩
  have hl := (ords_look hm HS.out).2 HH.out
  have hB := hb.alloc hb.size (.cells #[.nilFunc, .nilFunc, .int .i64 0] 127)
  have HB := Lib.hid hB
  clear hm hb hB
  go_wp2_with fail
  go_ret
  exact ⟨rfl, HB.out⟩
end Go.Proofs.YtbbbdcohkfijoaaGreatDoor

namespace Go.Proofs.YtbbbdcohkfijoaaGreatDoor
open Go.RowKit Go.Lib

/-- Two slices of the same numbers. -/
theorem srtSame_yes {A B : Option Addr} {n c d : Nat} {xs : List Nat} (hn : xs.length = n) (hl : n ≤ 1000) {w : World} (hA : Rd .i64 w A xs) (hB : Rd .i64 w B xs) :
    Calls Tryz.prog 94 #[.slice A n c, .slice B n d] w fun e w' => e = .returned (.bool true) ∧ Below w.heap.size w w' := by
  have HA := Lib.hid hA
  have HB := Lib.hid hB
  have HN := Lib.hid hn
  clear hA hB hn
  go_enter Tryz.func94, Tryz.ntmps94
  go_wp2
  go_loopw [13] (fun kv wr => ∃ k : Nat, kv = .int .i64 (k : Int) ∧ k ≤ n ∧ Below w.heap.size w wr) (fun kv _ => n - (RowKit.intOf kv).toNat)
  case atStart => exact ⟨0, rfl, Nat.zero_le _, Below.refl _ _⟩
  case round =>
    obtain ⟨k, rfl, hk, hB⟩ := hrel
    by_cases hlt : k < n
    · have hkl : k < xs.length := by rw [HN.out]; exact hlt
      obtain ⟨b1, o1, e1, c1⟩ := HA.out.below hB k hkl
      obtain ⟨b2, o2, e2, c2⟩ := HB.out.below hB k hkl
      subst e1
      subst e2
      obtain ⟨x, hx⟩ : ∃ x : Nat, xs[k] = x := ⟨_, rfl⟩
      rw [hx] at c1 c2
      have HBW := Lib.hid hB
      clear hx hB
      go_wp2_with fail
      go_region_held3 (fun w' => w'.cell? ⟨b1, o1 + k, none⟩ = some (.int .i64 (x : Int)) ∧ w'.cell? ⟨b2, o2 + k, none⟩ = some (.int .i64 (x : Int))) (go_keep) (fail)
      all_goals
        clear c1 c2
        go_wp2_with fail
        refine ⟨⟨k + 1, rfl, by omega, ?_⟩, ?_⟩
        · exact ⟨HBW.out.os, HBW.out.tape, HBW.out.output, HBW.out.size, HBW.out.block⟩
        · simp [RowKit.intOf]
          omega
    · have hkn : k = n := by omega
      subst hkn
      go_wp2_with fail
      go_ret
      exact ⟨rfl, hB⟩
theorem ltV_is {cv : Nat → Nat → Int} {way : Int} (h : CmpW cv) (hw : way = 1 ∨ way = -1) (a b : Nat) : ltV cv way a b = if cv a b = 0 then decide (a < b) else decide (cv a b * way < 0) := by
  have hb := h.bd a b
  unfold ltV lessB
  have e : IntKind.i64.wrap (cv a b * way) = cv a b * way := by
    exact IntWalk.i64_in _ (by rcases hw with rfl | rfl <;> omega)
  rw [e]
  by_cases h0 : cv a b = 0
  · rw [if_pos h0, h0, Int.zero_mul, if_pos rfl]
    simp
  · rw [if_neg h0, if_neg (by rcases hw with rfl | rfl <;> omega)]
theorem pre_ten : preN [49, 48] = 4621819117588971520 := by
  rw [preN_fw (b := false) (X1 := [49, 48]) (X2 := []) (xe := 0) (z := 2) (m := 10) (by rfl) (by omega) (by decide)]
  decide +kernel
theorem pre_nine : preN [57] = 4621256167635550208 := by
  rw [preN_fw (b := false) (X1 := [57]) (X2 := []) (xe := 0) (z := 1) (m := 9) (by rfl) (by omega) (by decide)]
  decide +kernel
theorem pre_x : preN [120] = 0 := by
  rw [preN_fw (b := false) (X1 := []) (X2 := []) (xe := 0) (z := 0) (m := 0) (by rfl) (by omega) (by decide)]
  decide +kernel
theorem srtOf_any (x : Nat) (w : World) : Calls Tryz.prog 93 #[.float .f64 x] w fun e w' => e = .returned (.agg #[.int .i64 1, .float .f64 x, .string ⟨#[]⟩]) ∧ Below w.heap.size w w' := by
  have F := Blk.new w #[.int .i64 0, .float .f64 0, .string ⟨#[]⟩] 48
  have q0 := F.cell 0
  have q1 := F.cell 1
  have q2 := F.cell 2
  have r0 := F.fro 0
  have r1 := F.fro 1
  have r2 := F.fro 2
  have hst := srt_store_float
  clear F
  go_enter Tryz.func93, Tryz.ntmps93
  go_wp2_with fail
  exact bodyPost_ret (v := .agg #[.int .i64 1, .float .f64 x, .string ⟨#[]⟩]) (by simp [results, Tryz.results93, go_sem]) rfl ⟨rfl, (Below.refl w.heap.size w).alloc (Nat.le_refl _) _⟩
/-- The three entries. -/
def fx3 : List Dat := [⟨⟨#[49, 48]⟩, 0, 0, ⟨#[]⟩, false⟩, ⟨⟨#[57]⟩, 0, 0, ⟨#[]⟩, true⟩, ⟨⟨#[120]⟩, 1, 13830554455654793216, ⟨#[]⟩, false⟩]
theorem fx3_fits : Fits fx3 := fun x hx => by
  simp [fx3] at hx
  rcases hx with rfl | rfl | rfl <;> decide
theorem fx_keys : InOrder (ltV (fun a b => cKeyN (fx3.getD a d00) (fx3.getD b d00)) 1) 3 [2, 1, 0] := by
  have hc := (ord_keyN (how := n3) (way := 1) ⟨#[]⟩ (by unfold ordT; simp) (by decide) (Or.inl rfl)).2.1 (fun a => fx3.getD a d00)
  have p0 : (rdKey (fx3.getD 0 d00)).num = 4621819117588971520 := by
    simp only [rdKey]
    rw [show (fx3.getD 0 d00).key.data.toList = [49, 48] from rfl]
    exact pre_ten
  have p1 : (rdKey (fx3.getD 1 d00)).num = 4621256167635550208 := by
    simp only [rdKey]
    rw [show (fx3.getD 1 d00).key.data.toList = [57] from rfl]
    exact pre_nine
  have p2 : (rdKey (fx3.getD 2 d00)).num = 0 := by
    simp only [rdKey]
    rw [show (fx3.getD 2 d00).key.data.toList = [120] from rfl]
    exact pre_x
  have q21 : cKeyN (fx3.getD 2 d00) (fx3.getD 1 d00) = -1 := by
    unfold cKeyN
    rw [p1, p2, show cmpN 0 4621256167635550208 = -1 by decide +kernel]
    rfl
  have q10 : cKeyN (fx3.getD 1 d00) (fx3.getD 0 d00) = -1 := by
    unfold cKeyN
    rw [p1, p0, show cmpN 4621256167635550208 4621819117588971520 = -1 by decide +kernel]
    rfl
  have q20 : cKeyN (fx3.getD 2 d00) (fx3.getD 0 d00) = -1 := by
    unfold cKeyN
    rw [p0, p2, show cmpN 0 4621819117588971520 = -1 by decide +kernel]
    rfl
  refine ⟨?_, fun a => ?_, rfl⟩
  · simp only [List.pairwise_cons, List.mem_cons, List.not_mem_nil, or_false, forall_eq_or_imp, forall_eq]
    simp only [ltV_is hc (Or.inl rfl), q21, q10, q20]
    simp
  · simp
    omega
theorem fx_vals : InOrder (ltV (fun a b => cvV (rdNum (fx3.getD a d00)) (rdNum (fx3.getD b d00))) (-1)) 3 [1, 0, 2] := by
  have hc := (ord_count (how := n8) (way := -1) ⟨#[]⟩ (by unfold ordT; simp) (by decide) (Or.inr rfl)).2.1 (fun a => fx3.getD a d00)
  have e0 : rdNum (fx3.getD 0 d00) = ⟨⟨#[49, 48]⟩, 1, 0, ⟨#[]⟩, false⟩ := by unfold rdNum numV2; rfl
  have e1 : rdNum (fx3.getD 1 d00) = ⟨⟨#[57]⟩, 1, 0, ⟨#[]⟩, true⟩ := by unfold rdNum numV2; rfl
  have e2 : rdNum (fx3.getD 2 d00) = ⟨⟨#[120]⟩, 1, 13830554455654793216, ⟨#[]⟩, false⟩ := by unfold rdNum numV2; rfl
  have q10 : cvV (rdNum (fx3.getD 1 d00)) (rdNum (fx3.getD 0 d00)) = 2 := by
    rw [e0, e1]
    unfold cvV
    rw [if_pos (by decide)]
    decide
  have q12 : cvV (rdNum (fx3.getD 1 d00)) (rdNum (fx3.getD 2 d00)) = 2 := by
    rw [e2, e1]
    unfold cvV
    rw [if_pos (by decide)]
    decide
  have q02 : cvV (rdNum (fx3.getD 0 d00)) (rdNum (fx3.getD 2 d00)) = 1 := by
    rw [e0, e2]
    unfold cvV
    rw [if_neg (by decide), if_neg (by decide)]
    unfold numV2
    rw [if_pos (by decide), if_pos (by decide)]
    decide +kernel
  refine ⟨?_, fun a => ?_, rfl⟩
  · simp only [List.pairwise_cons, List.mem_cons, List.not_mem_nil, or_false, forall_eq_or_imp, forall_eq]
    simp only [ltV_is hc (Or.inr rfl), q10, q12, q02]
    simp
  · simp
    omega
end Go.Proofs.YtbbbdcohkfijoaaGreatDoor

namespace Go.Proofs.YtbbbdcohkfijoaaGreatDoor
open Go.RowKit Go.Lib

/-- A slice of the call's own, of entries, as one that is read. -/
theorem rde_of_own {W : World} {B : Nat} {t : TypeId} {v : Value} {es : List Dat} (h : W.ownsRow B t 5 v es.length (entsC es)) : ∃ A cap, v = .slice A es.length cap ∧ RdE W A es ∧ es.length ≤ cap := by
  rcases h.2 with ⟨rfl, h0⟩ | ⟨q, cap, cur, rfl, hb, hg, h1, h2, h3, h4⟩
  · refine ⟨none, 0, by rw [h0], fun j hj => absurd hj (by omega), by omega⟩
  · refine ⟨_, cap, rfl, fun j hj => ⟨q, 0, rfl, fun i hi => ?_⟩, h1⟩
    have hc := World.ownsRow.cellAt h (j * 5 + i) (by omega)
    rw [show 0 + j * 5 + i = j * 5 + i by omega, hc]
    exact entsC_at hj hi
theorem rdE_three {W : World} {b : Nat} {t : TypeId} {es : List Dat} (h : Blk W b (entsC es).toArray t) : RdE W (some ⟨b, 0, none⟩) es := fun j hj => ⟨b, 0, rfl, fun i hi => by
  rw [h.cell]
  rw [show 0 + j * 5 + i = j * 5 + i by omega]
  simpa using entsC_at hj hi⟩
theorem order_sure {how conv : ByteArray} {c : Dat → Dat → Int} {way : Int} (ob : OrderBy how conv c way) {A : Option Addr} {n cap : Nat} {es : List Dat} {out : List Nat} {W : World} (hn : es.length = n) (hl : n ≤ 1000) (hR : RdE W A es) (hT : PowTab W) (hF : Fits es)
    (ho : InOrder (ltV (fun a b => c (es.getD a d00) (es.getD b d00)) way) n out) :
    Calls Tryz.prog 35 #[.slice A n cap, .string how, .string conv] W fun e w' => ∃ v, e = .returned (.tuple #[v, .int .i64 0]) ∧ Own .i64 w' W.heap.size 3 v out ∧ Below W.heap.size W w' := by
  subst hn
  refine (ob.2.2 A cap es W hl hR hT hF).mono ?_
  rintro e w' ⟨v, o, rfl, hi, hO, hb⟩
  rw [hi.uniq ((ob.2.1 fun a => es.getD a d00).ord ob.1) ho] at hO
  exact ⟨v, rfl, hO, hb⟩
theorem own_three {w : World} {a b c : Nat} : Own .i64 (w.alloc (.cells #[.int .i64 (a : Int), .int .i64 (b : Int), .int .i64 (c : Int)] 3)) w.heap.size 3 (.slice (some ⟨w.heap.size, 0, none⟩) 3 3) [a, b, c] :=
  ⟨rfl, Or.inr ⟨w.heap.size, 3, _, rfl, Nat.le_refl _, heap_alloc_new w _, Nat.le_refl 3, by decide, rfl, rfl⟩⟩
set_option maxRecDepth 100000 in
set_option maxHeartbeats 4000000 in
theorem srtFixed_any (w : World) (hT : PowTab w) : Calls Tryz.prog 33 #[] w fun e w' => e = .returned (.bool true) ∧ Below w.heap.size w w' := by
  have CF := Lib.hid (fun W => srtOf_any 13830554455654793216 W)
  have HT := Lib.hid (Lib.tabBelow_of_tabIs hT)
  clear hT
  have CS := Lib.hid (fun (n c d : Nat) (A B : Option Addr) (xs : List Nat) (hn : xs.length = n) (hl : n ≤ 1000) (W : World) (hA : Rd .i64 W A xs) (hB : Rd .i64 W B xs) => srtSame_yes (c := c) (d := d) hn hl hA hB)
  go_enter Tryz.func33, Tryz.ntmps33
  go_wp2_with fail
  refine (CF.out _).mono ?_
  rintro e W1 ⟨rfl, hb1⟩
  have HB1 := Lib.hid hb1
  have hs1 := hb1.size
  clear hb1 CF
  go_wp2_with fail
  have B1 := Blk.new W1 (entsC fx3).toArray 61
  have hb2 := (HB1.out.alloc hs1 (.cells (entsC fx3).toArray 61))
  refine (show Calls _ _ _ _ _ from order_sure (ord_keyN (how := n3) (way := 1) p6g (by unfold ordT; simp) (by decide) (Or.inl rfl)) rfl (by decide) (rdE_three B1) (HT.out _ hb2) fx3_fits fx_keys).mono ?_
  rintro e W2 ⟨v1, rfl, hO1, hb3⟩
  have hb3 : Below (W1.alloc (.cells (entsC fx3).toArray 61)).heap.size (W1.alloc (.cells (entsC fx3).toArray 61)) W2 := hb3
  have B2 := B1.below hb3 B1.lt
  have hb4 := hb2.trans (hb3.mono hb2.size)
  obtain ⟨A1, cap1, rfl, hA1⟩ : ∃ A cap, v1 = .slice A 3 cap ∧ Rd .i64 W2 A [2, 1, 0] := by
    obtain ⟨A, cap, rfl, _⟩ := hO1.slice
    exact ⟨A, cap, rfl, hO1.rd⟩
  have HB2 := Lib.hid B2
  have HB4 := Lib.hid hb4
  have HA1 := Lib.hid hA1
  have hs4 := hb4.size
  clear B1 hb2 hO1 hb3 B2 hb4 hA1 HB1
  go_wp2_with fail
  refine (show Calls _ _ _ _ _ from order_sure (ord_count (how := n8) (way := -1) p6g (by unfold ordT; simp) (by decide) (Or.inr rfl)) rfl (by decide) (rdE_three HB2.out) (HT.out _ HB4.out) fx3_fits fx_vals).mono ?_
  rintro e W3 ⟨v2, rfl, hO2, hb5⟩
  have hb6 := HB4.out.trans (hb5.mono hs4)
  have hA1 := HA1.out.below hb5
  obtain ⟨A2, cap2, rfl, hA2⟩ : ∃ A cap, v2 = .slice A 3 cap ∧ Rd .i64 W3 A [1, 0, 2] := by
    obtain ⟨A, cap, rfl, _⟩ := hO2.slice
    exact ⟨A, cap, rfl, hO2.rd⟩
  have HB6 := Lib.hid hb6
  have HA2 := Lib.hid hA2
  have HA3 := Lib.hid hA1
  have hs6 := hb6.size
  clear hO2 hb5 hb6 hA2 hA1 HA1 HB4 HB2
  go_wp2_with fail
  have z1 := (own_three (w := W3) (a := 2) (b := 1) (c := 0)).rd
  have b7 := (Below.refl W3.heap.size W3).alloc (Nat.le_refl _) (.cells #[.int .i64 2, .int .i64 1, .int .i64 0] 3)
  refine (show Calls _ _ _ _ _ from CS.out 3 cap1 3 A1 _ [2, 1, 0] rfl (by omega) _ (HA3.out.below b7) z1).mono ?_
  rintro e W4 ⟨rfl, hb8⟩
  have b9 := b7.trans (hb8.mono b7.size)
  have hA4 := HA2.out.below b9
  have hb10 := HB6.out.trans (b9.mono hs6)
  have HA4 := Lib.hid hA4
  have HB10 := Lib.hid hb10
  have hs10 := hb10.size
  clear z1 b7 hb8 b9 hA4 hb10 HA2 HA3 HB6 hs6
  go_wp2_with fail
  have z1 := (own_three (w := W4) (a := 1) (b := 0) (c := 2)).rd
  have b7 := (Below.refl W4.heap.size W4).alloc (Nat.le_refl _) (.cells #[.int .i64 1, .int .i64 0, .int .i64 2] 3)
  refine (show Calls _ _ _ _ _ from CS.out 3 cap2 3 A2 _ [1, 0, 2] rfl (by omega) _ (HA4.out.below b7) z1).mono ?_
  rintro e W5 ⟨rfl, hb8⟩
  have hb9 := HB10.out.trans ((b7.trans (hb8.mono b7.size)).mono hs10)
  have HB11 := Lib.hid hb9
  clear z1 b7 hb8 hb9 HA4 HB10 hs10 CS HT
  go_wp2_with fail
  go_ret
  exact ⟨rfl, HB11.out⟩
end Go.Proofs.YtbbbdcohkfijoaaGreatDoor

namespace Go.Proofs.YtbbbdcohkfijoaaGreatDoor
open Go.RowKit Go.Lib

theorem ents_fit {es : List ItD} (hf : ∀ x ∈ es, x.fine) (hz : ∀ x ∈ es, x.key.size ≤ 140737488351232 ∧ x.str.size ≤ 140737488351232) : Fits (es.map ItD.ent) := fun d hd => by
  obtain ⟨x, hx, rfl⟩ := List.mem_map.1 hd
  obtain ⟨q0, q1⟩ := bounds_u64 (hf x hx).2
  have hz := hz x hx
  exact ⟨by show x.bits.toNat < _; omega, hz.1, hz.2⟩
/-- made, its slice told. -/
theorem made_rd (A : Option Addr) (cap : Nat) (es : List ItD) (w : World) {n : Nat} (hn : es.length = n) (hl : n ≤ 300) (hR : RdI w A es) (hf : ∀ x ∈ es, x.fine) :
    Calls Tryz.prog 34 #[.slice A n cap] w fun e w' => ∃ A' cap', e = .returned (.slice A' n cap') ∧ RdE w' A' (es.map ItD.ent) ∧ Below w.heap.size w w' := by
  subst hn
  refine (made_any A cap es w hl hR hf).mono ?_
  rintro e w' ⟨v, rfl, hO, hb⟩
  rw [show es.length = (es.map ItD.ent).length by rw [List.length_map]] at hO
  obtain ⟨A', cap', rfl, hr, _⟩ := rde_of_own hO
  refine ⟨A', cap', by rw [List.length_map], hr, hb⟩
/-- Order, its slice told. -/
theorem order_rd {how conv : ByteArray} {c : Dat → Dat → Int} {way : Int} (ob : OrderBy how conv c way) {A : Option Addr} {n cap : Nat} {es : List Dat} {W : World} (hn : es.length = n) (hl : n ≤ 1000) (hR : RdE W A es) (hT : PowTab W) (hF : Fits es) :
    Calls Tryz.prog 35 #[.slice A n cap, .string how, .string conv] W fun e w' => ∃ A' cap' out, e = .returned (.tuple #[.slice A' n cap', .int .i64 0]) ∧ InOrder (ltV (fun a b => c (es.getD a d00) (es.getD b d00)) way) n out ∧ Rd .i64 w' A' out ∧ Below W.heap.size W w' := by
  subst hn
  refine (ob.2.2 A cap es W hl hR hT hF).mono ?_
  rintro e w' ⟨v, o, rfl, hi, hO, hb⟩
  obtain ⟨A', cap', rfl, _⟩ := hO.slice
  refine ⟨A', cap', o, by rw [hi.len], hi, hO.rd, hb⟩
theorem in_range {n : Nat} {lt : Nat → Nat → Bool} (h : ∀ a b, a < b → b < n → lt a b = true) : InOrder lt n (List.range n) :=
  ⟨List.pairwise_iff_getElem.2 fun i j hi hj hij => by
    simp only [List.length_range] at hi hj
    rw [List.getElem_range, List.getElem_range]
    exact h i j hij hj, fun a => List.mem_range, List.length_range⟩
theorem out_lt {lt : Nat → Nat → Bool} {n : Nat} {l : List Nat} (h : InOrder lt n l) (k : Nat) (hk : k < l.length) : l[k] < n := (h.all _).1 (List.getElem_mem hk)
end Go.Proofs.YtbbbdcohkfijoaaGreatDoor

namespace Go.Proofs.YtbbbdcohkfijoaaGreatDoor
open Go.RowKit Go.Lib

/-- Who has been seen. -/
def seenA (l : List Nat) (n : Nat) : Array Value := ((List.range n).map fun i => Value.bool (decide (i ∈ l))).toArray
theorem seenA_nil (n : Nat) : madeCells #[Value.bool false] n = seenA [] n := by
  apply Array.toList_inj.1
  rw [toList_madeCells_one]
  unfold seenA
  apply List.ext_getElem
  · simp
  · intro i _ _
    simp
theorem seenA_at {l : List Nat} {n i : Nat} (hi : i < n) : (seenA l n)[i]? = some (.bool (decide (i ∈ l))) := by
  unfold seenA
  simp [hi]
theorem seenA_set (l : List Nat) (n x : Nat) : (seenA l n).setIfInBounds x (.bool true) = seenA (l ++ [x]) n := by
  apply Array.toList_inj.1
  unfold seenA
  rw [Array.toList_setIfInBounds]
  apply List.ext_getElem
  · simp
  · intro i h1 h2
    simp only [List.getElem_set, List.getElem_map, List.getElem_range]
    by_cases e : x = i
    · subst e
      simp
    · have : ¬ i = x := fun h => e h.symm
      simp [e, this]
theorem info_bool : (Tryz.prog.info? 4).map (fun i => (i.zero, i.size, i.bytes)) = some (some (.bool false), 1, 1) := by kernel_rfl
/-- Sorted entries are sorted. -/
theorem sorted_again {c : Dat → Dat → Int} {way : Int} {ds : List Dat} {n : Nat} {o : List Nat} (hw : way = 1 ∨ way = -1) (hc : ∀ d : Nat → Dat, CmpW fun a b => c (d a) (d b))
    (h1 : InOrder (ltV (fun a b => c (ds.getD a d00) (ds.getD b d00)) way) n o) :
    InOrder (ltV (fun a b => c ((o.map fun i => ds.getD i d00).getD a d00) ((o.map fun i => ds.getD i d00).getD b d00)) way) n (List.range n) := by
  refine in_range fun a b hab hb => ?_
  have hl := h1.len
  have hr := List.pairwise_iff_getElem.1 h1.rises a b (by omega) (by omega) hab
  have ha' : (o.map fun i => ds.getD i d00).getD a d00 = ds.getD (o[a]'(by omega)) d00 := by
    rw [List.getD_eq_getElem?_getD, List.getElem?_eq_getElem (by rw [List.length_map]; omega), List.getElem_map]
    rfl
  have hb' : (o.map fun i => ds.getD i d00).getD b d00 = ds.getD (o[b]'(by omega)) d00 := by
    rw [List.getD_eq_getElem?_getD, List.getElem?_eq_getElem (by rw [List.length_map]; omega), List.getElem_map]
    rfl
  rw [ltV_is (hc fun a => ds.getD a d00) hw] at hr
  rw [ltV_is (hc fun a => (o.map fun i => ds.getD i d00).getD a d00) hw, ha', hb']
  by_cases hz : c (ds.getD (o[a]'(by omega)) d00) (ds.getD (o[b]'(by omega)) d00) = 0
  · rw [if_pos hz]
    exact decide_eq_true hab
  · rw [if_neg hz] at hr ⊢
    exact hr
theorem order_nodup {lt : Nat → Nat → Bool} {n : Nat} {o : List Nat} (hi : ∀ a, lt a a = false) (h : InOrder lt n o) (k : Nat) (hk : k < o.length) : o[k] ∉ o.take k := fun hm => by
  obtain ⟨j, hj, e⟩ := List.getElem_of_mem hm
  rw [List.length_take] at hj
  rw [List.getElem_take] at e
  have := List.pairwise_iff_getElem.1 h.rises j k (by omega) hk (by omega)
  rw [e, hi] at this
  cases this
theorem fits_of {ds : List Dat} {o : List Nat} (h : Fits ds) (ho : ∀ i ∈ o, i < ds.length) : Fits (o.map fun i => ds.getD i d00) := fun x hx => by
  obtain ⟨i, hi, rfl⟩ := List.mem_map.1 hx
  rw [List.getD_eq_getElem?_getD, List.getElem?_eq_getElem (ho i hi)]
  exact h _ (List.getElem_mem _)
theorem row_ne {W : World} {B s n b : Nat} {t u : TypeId} {v : Value} {xs : List Value} {cs : Array Value} (h : W.ownsRow B t s v n xs) (k : Blk W b cs u) (ht : u ≠ t) : v.ownBlock ≠ some b := by
  rcases h.2 with ⟨rfl, _⟩ | ⟨q, cap, cur, rfl, _, hg, _⟩
  · simp [Value.ownBlock]
  · intro e
    simp [Value.ownBlock] at e
    subst e
    have := k.row.symm.trans hg
    injection this with this
    injection this with _ this
    exact ht this
theorem row_base {W : World} {B s n : Nat} {t : TypeId} {v : Value} {xs : List Value} (h : W.ownsRow B t s v n xs) (q : Nat) (hq : v.ownBlock = some q) : B ≤ q := by
  rcases h.2 with ⟨rfl, _⟩ | ⟨q', cap, cur, rfl, hb, _⟩
  · simp [Value.ownBlock] at hq
  · simp [Value.ownBlock] at hq
    subst hq
    exact hb
set_option maxRecDepth 100000 in
set_option maxHeartbeats 4000000 in
theorem sortsWhole_any (A : Option Addr) (cap : Nat) (es : List ItD) (how : ByteArray) (W : World) (hR : RdI W A es) (hf : ∀ x ∈ es, x.fine) (hz : ∀ x ∈ es, x.key.size ≤ 140737488351232 ∧ x.str.size ≤ 140737488351232) (hh : how.size ≤ maxLen) (hT : PowTab W) :
    Calls Tryz.prog 7 #[.slice A es.length cap, .string how] W fun e w' => e = .returned (.bool true) ∧ Below W.heap.size W w' := by
  have CF := Lib.hid (srtFixed_any W hT)
  have HT := Lib.hid (Lib.tabBelow_of_tabIs hT)
  have HF := Lib.hid (ents_fit hf hz)
  have HH := Lib.hid hh
  obtain ⟨n, hn⟩ : ∃ n, es.length = n := ⟨_, rfl⟩
  have CM := Lib.hid (fun (w' : World) (hb : Below W.heap.size W w') (hl : n ≤ 300) => made_rd A cap es w' hn hl (hR.below (Nat.le_refl _) hb) hf)
  have HEL : (es.map ItD.ent).length = n := by rw [List.length_map, hn]
  obtain ⟨ds, hds⟩ : ∃ ds, es.map ItD.ent = ds := ⟨_, rfl⟩
  rw [hds] at HF HEL
  have HDS := Lib.hid hds
  have HEL := Lib.hid HEL
  rw [hn]
  clear hR hf hz hT hn hds hh
  go_enter Tryz.func7, Tryz.ntmps7
  go_wp2_with fail
  refine CF.out.mono ?_
  rintro e W1 ⟨rfl, hb1⟩
  have HB1 := Lib.hid hb1
  have hs1 := hb1.size
  clear hb1 CF
  by_cases hl : n ≤ 300
  · have CM1 := Lib.hid (CM.out W1 HB1.out hl)
    clear CM
    go_wp2_with fail
    refine CM1.out.mono ?_
    rintro e W2 ⟨A2, cap2, rfl, hr2, hb2⟩
    rw [HDS.out] at hr2
    have hb2 := HB1.out.trans (hb2.mono hs1)
    have HR2 := Lib.hid hr2
    have HB2 := Lib.hid hb2
    have hs2 := hb2.size
    clear hr2 hb2 CM1 HB1
    go_wp2_with fail
    by_cases hm : ∃ fr fc way, (how, fr, fc, way) ∈ ordT
    · obtain ⟨fr, fc, way0, hm⟩ := hm
      obtain ⟨c, way, ob⟩ := order_all hm
      have OB := Lib.hid ob
      clear ob hm
      refine (show Calls _ _ _ _ _ from order_rd OB.out HEL.out (by omega) HR2.out (HT.out _ HB2.out) HF.out).mono ?_
      rintro e W3 ⟨A3, cap3, o1, rfl, hi3, hr3, hb3⟩
      have hr2 := HR2.out.below (Nat.le_refl _) hb3
      have hb3 := HB2.out.trans (hb3.mono hs2)
      have HI3 := Lib.hid hi3
      have HR3 := Lib.hid hr3
      have HR2' := Lib.hid hr2
      have HB3 := Lib.hid hb3
      have hs3 := hb3.size
      clear hr2 hb3 hi3 hr3 HR2 HB2
      obtain ⟨i0, hi, hz0, hz1, hz2⟩ := info_parts info_bool
      have hmk : ∀ W : World, (Instr.makeSlice 59 (.int .i64 (n : Int)) (.int .i64 (n : Int))).run Tryz.prog W = .ok (.slice (some ⟨W.heap.size, 0, none⟩) n n) (W.alloc (.cells (madeCells (Value.bool false).cells (n * 1)) 4)) := fun W => by
        have := run_make (P := Tryz.prog) W 59 4 i0 (.bool false) Tryz.underlying59 hi hz0 .i64 .i64 (n : Int) (n : Int) (by omega) (by omega) (by rw [hz2]; omega) (by omega)
        rw [hz1, Int.toNat_natCast] at this
        exact this
      clear hi hz0 hz1 hz2
      go_wp2_with fail
      have HLN := Lib.hid HI3.out.len
      have hS0 : Blk (W3.alloc (.cells (madeCells #[Value.bool false] n) 4)) W3.heap.size (seenA [] n) 4 := by
        rw [← seenA_nil]
        exact Blk.new W3 _ _
      have hB0 := (Below.refl W3.heap.size W3).alloc (Nat.le_refl _) (.cells (madeCells #[Value.bool false] n) 4)
      go_loopw [9, 47] (fun sv kv wr => ∃ (v : Value) (k : Nat), v = sv ∧ kv = .int .i64 (k : Int) ∧ k ≤ n ∧ wr.ownsRow W3.heap.size 61 5 v k (entsC ((o1.take k).map fun i => ds.getD i d00)) ∧ Blk wr W3.heap.size (seenA (o1.take k) n) 4 ∧ Below W3.heap.size W3 wr) (fun _ kv _ => n - (RowKit.intOf kv).toNat)
      case atStart => exact ⟨_, 0, rfl, rfl, Nat.zero_le _, World.ownsRow_nil _ _ _ _, hS0, hB0⟩
      case round =>
        obtain ⟨v, k, rfl, rfl, hk, hO, hS, hB⟩ := hrel
        clear hS0 hB0 hmk
        by_cases hlt : k < n
        · obtain ⟨L, hL⟩ : ∃ L, entsC ((o1.take k).map fun i => ds.getD i d00) = L := ⟨_, rfl⟩
          rw [hL] at hO
          have HL := Lib.hid hL
          clear hL
          obtain ⟨i0, hi, hz0, hz1, hz2⟩ := info_parts info_entry
          have hln := HLN.out
          have hel := HEL.out
          have hbl := hB.size
          have hkl : k < o1.length := by omega
          obtain ⟨b3, q3, e3, c3⟩ := HR3.out.below hB k hkl
          have hxn := out_lt HI3.out k hkl
          have hnt := order_nodup (((OB.out.2.1 fun a => ds.getD a d00).ord OB.out.1).irr) HI3.out k hkl
          have htk : o1.take (k + 1) = o1.take k ++ [o1[k]] := List.take_succ_eq_append_getElem hkl
          obtain ⟨x, hx⟩ : ∃ x : Nat, o1[k] = x := ⟨_, rfl⟩
          rw [hx] at c3 hxn hnt htk
          subst e3
          have hB1 := hB.setCell (p := ⟨W3.heap.size, x, none⟩) (Nat.le_refl _) (.bool true)
          obtain ⟨b2, q2, e2, hc2⟩ := HR2'.out.below (Nat.le_refl _) hB1 x (by omega)
          subst e2
          have cs := hS.cell x
          rw [seenA_at hxn, decide_eq_false hnt] at cs
          have fs := hS.fro x
          obtain ⟨d, hd⟩ : ∃ d, ds.getD x d00 = d := ⟨_, rfl⟩
          have hd2 : ds[x]'(by omega) = d := by
            rw [← hd, List.getD_eq_getElem?_getD, List.getElem?_eq_getElem (by omega)]
            rfl
          rw [hd2] at hc2
          have k0 : (wr.setCell ⟨W3.heap.size, x, none⟩ (.bool true)).cell? ⟨b2, q2 + x * 5, none⟩ = some (.string d.key) := hc2 0 (by omega)
          have k1 : (wr.setCell ⟨W3.heap.size, x, none⟩ (.bool true)).cell? ⟨b2, q2 + x * 5 + 1, none⟩ = some (.int .i64 d.kind) := hc2 1 (by omega)
          have k2 : (wr.setCell ⟨W3.heap.size, x, none⟩ (.bool true)).cell? ⟨b2, q2 + x * 5 + 2, none⟩ = some (.float .f64 d.num) := hc2 2 (by omega)
          have k3 : (wr.setCell ⟨W3.heap.size, x, none⟩ (.bool true)).cell? ⟨b2, q2 + x * 5 + 3, none⟩ = some (.string d.str) := hc2 3 (by omega)
          have k4 : (wr.setCell ⟨W3.heap.size, x, none⟩ (.bool true)).cell? ⟨b2, q2 + x * 5 + 4, none⟩ = some (.bool d.sub) := hc2 4 (by omega)
          have hne := row_ne hO hS (by decide)
          have hO1 := hO.kept (srt_grown_set wr W3.heap.size x (.bool true)) (Or.inr hne)
          have hS1 := hS.set (j := x) (u := .bool true)
          rw [seenA_set, ← htk] at hS1
          have hnew : ∀ j u, (enC d)[j]? = some u → ((wr.setCell ⟨W3.heap.size, x, none⟩ (.bool true)).alloc (.cells #[.string d.key, .int .i64 d.kind, .float .f64 d.num, .string d.str, .bool d.sub] 61)).cell? ((⟨wr.heap.size, 0, none⟩ : Addr).add j) = some u := fun j u hu => by
            have := row_new (wr.setCell ⟨W3.heap.size, x, none⟩ (.bool true)) #[.string d.key, .int .i64 d.kind, .float .f64 d.num, .string d.str, .bool d.sub] 61 j u hu
            simpa [World.setCell] using this
          have hB2 := hB1.alloc (by simpa using hbl) (.cells #[.string d.key, .int .i64 d.kind, .float .f64 d.num, .string d.str, .bool d.sub] 61)
          have HS1 := Lib.hid (hS1.alloc (.cells #[.string d.key, .int .i64 d.kind, .float .f64 d.num, .string d.str, .bool d.sub] 61))
          have HB1 := Lib.hid hB2
          have HO1 := Lib.hid hO1
          have HOO := Lib.hid hO
          have HNE := Lib.hid hne
          have HNEW := Lib.hid hnew
          have HTK := Lib.hid htk
          have HD := Lib.hid hd
          have hst := srt_store_float
          have hge : decide ((n : Int) ≤ (x : Int)) = false := decide_eq_false (by omega)
          have hge2 : decide (n ≤ x) = false := decide_eq_false (by omega)
          have hlt0 : decide ((x : Int) < 0) = false := decide_eq_false (by omega)
          clear hO hO1 hS hS1 hB hB1 hB2 hc2 hnt htk hd hd2 hx hne hln hel hkl hnew
          go_wp2_with (at_builtin; refine wpList_append_own_at _ rfl _ _ 53 rfl W3.heap.size 61 i0 _ 5 56 Tryz.underlying53 hi hz0 hz1 hz2 rfl (by decide) _ k _ rfl (HO1.out.alloc _) ⟨wr.heap.size, 0, none⟩ 1 1 (enC d) rfl rfl HNEW.out (by simp [enC, Value.oneCell']) (by unfold maxLen; omega) (by omega) (by simp; omega) ?_)
          intro v' w2 hown2 hgrow _ _
          have hS2 := HS1.out.grown hgrow (fun e => HNE.out e.symm)
          have hB2 := HB1.out.grown hgrow (by simp; omega) (fun q hq => row_base HOO.out q hq)
          have HS2 := Lib.hid hS2
          have HB2 := Lib.hid hB2
          have HO2 := Lib.hid hown2
          clear hS2 hB2 hown2 hgrow k0 k1 k2 k3 k4
          go_wp2_with fail
          refine ⟨⟨v', k + 1, rfl, rfl, by omega, ?_, HS2.out, HB2.out⟩, ?_⟩
          · rw [HTK.out, List.map_append, List.map_cons, List.map_nil, HD.out, entsC_snoc, HL.out]
            exact HO2.out
          · simp [RowKit.intOf]
            omega
        · have hkn : k = n := by omega
          subst hkn
          have hln := HLN.out
          rw [show o1.take k = o1 by rw [← hln, List.take_length]] at hO
          have hO' : wr.ownsRow W3.heap.size 61 5 v (o1.map fun i => ds.getD i d00).length (entsC (o1.map fun i => ds.getD i d00)) := by rw [List.length_map, hln]; exact hO
          obtain ⟨A5, cap5, rfl, hr5, _⟩ := rde_of_own hO'
          rw [List.length_map, hln]
          have hb5 := HB3.out.trans (hB.mono hs3)
          have HB5 := Lib.hid hb5
          have hs5 := hb5.size
          have HR5 := Lib.hid hr5
          have HF5 := Lib.hid (fits_of HF.out (fun i hi => by rw [HEL.out]; exact (HI3.out.all i).1 hi))
          have HI5 := Lib.hid (sorted_again OB.out.1 OB.out.2.1 HI3.out)
          have hl5 : (o1.map fun i => ds.getD i d00).length = k := by rw [List.length_map, hln]
          have HL5 := Lib.hid hl5
          clear hO hO' hS hB hb5 hr5 HR2' HB3 HF HDS hln hl5
          go_wp2_with fail
          refine (show Calls _ _ _ _ _ from order_rd OB.out HL5.out (by omega) HR5.out (HT.out _ HB5.out) HF5.out).mono ?_
          rintro e W6 ⟨A6, cap6, o2, rfl, hi6, hr6, hb6⟩
          have e2 := hi6.uniq ((OB.out.2.1 fun a => (o1.map fun i => ds.getD i d00).getD a d00).ord OB.out.1) HI5.out
          subst e2
          have hb6 := HB5.out.trans (hb6.mono hs5)
          have HB6 := Lib.hid hb6
          have HR6 := Lib.hid hr6
          have hs6 := hb6.size
          clear hi6 hr6 hb6 HR5 HB5 HT HF5 HI5 HL5 OB HEL
          go_wp2_with fail
          go_loopw [100] (fun kv wr => ∃ i : Nat, kv = .int .i64 (i : Int) ∧ i ≤ k ∧ Below W6.heap.size W6 wr) (fun kv _ => k - (RowKit.intOf kv).toNat)
          case atStart => exact ⟨0, rfl, Nat.zero_le _, Below.refl _ _⟩
          case round =>
            obtain ⟨i, rfl, hi, hB⟩ := hrel
            by_cases hik : i < k
            · obtain ⟨b4, q4, e4, c4⟩ := HR6.out.below hB i (by simpa using hik)
              rw [List.getElem_range] at c4
              subst e4
              have HBW := Lib.hid hB
              clear hB
              go_wp2_with fail
              refine ⟨⟨i + 1, rfl, by omega, ⟨HBW.out.os, HBW.out.tape, HBW.out.output, HBW.out.size, HBW.out.block⟩⟩, ?_⟩
              simp [RowKit.intOf]
              omega
            · have hik2 : i = k := by omega
              subst hik2
              go_wp2_with fail
              go_ret
              exact ⟨rfl, HB6.out.trans (hB.mono hs6)⟩
    · have hno : ∀ fr fc way, (how, fr, fc, way) ∉ ordT := fun fr fc way h => hm ⟨fr, fc, way, h⟩
      have CK := Lib.hid (fun W => known_no how W hno HH.out)
      refine (order_no A2 n cap2 how _ W2 hno HH.out).mono ?_
      rintro e W3 ⟨rfl, hb3⟩
      have hb3 := HB2.out.trans (hb3.mono hs2)
      have HB3 := Lib.hid hb3
      have hs3 := hb3.size
      clear hb3 HB2 HR2 hm hno HT HF HDS HEL
      go_wp2_with fail
      refine (CK.out _).mono ?_
      rintro e W4 ⟨rfl, hb4⟩
      have HB4 := Lib.hid (HB3.out.trans (hb4.mono hs3))
      clear hb4 HB3 CK
      go_wp2_with fail
      go_ret
      exact ⟨rfl, HB4.out⟩
  · clear CM HF HDS HEL HT
    have hl' : 300 < n := by omega
    go_wp2_with fail
    go_ret
    exact ⟨rfl, HB1.out⟩
end Go.Proofs.YtbbbdcohkfijoaaGreatDoor
