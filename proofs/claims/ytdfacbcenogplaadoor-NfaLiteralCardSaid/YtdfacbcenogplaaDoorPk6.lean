/- Several texts in one (Contracts of layer 9: what a character behind a backslash means; members of sets, classes; Contracts of layer 9: members and classes of sets; items; Contracts of layer 9: classes and items of sets; Contracts of layer 9: items of sets; Plain: a text whose signs have a backslash ahead reads as its characters; Plain arithmetic of layer 1: what a character is hangs on its own bytes, and on none of those behind that goes on with it; Plain: a pattern that stands within another one, ahead of a bracket, a stroke or the end, reads as by itself; Plain: two right patterns with a stroke between; brackets around one; Contracts of layer 9: nodes put together; what a struct that is handed back leaves). -/
import Derived.Shelf.SlicesQ.IndexFunc
import Derived.Test.YtdfacbcenogplaaDoorPk1
import Derived.Test.YtdfacbcenogplaaDoorPk5
namespace Go.Proofs.YtdfacbcenogplaaDoor
open Go.RowKit Go.Lib

def alnR : List (Int × Int) := [(48, 57), (65, 90), (97, 122)]
theorem rx_pred (c : Int) (B : Nat) (w : World) (hB : B < w.heap.size) (hcell : w.cell? ⟨B, 0, none⟩ = some (.int .i64 c)) :
    Go.Proofs.PredBelow Tryd.prog 176 #[.pointer (some ⟨B, 0, none⟩)] (fun x => .agg (encR x).toArray) (fun x => decide (x.1 ≤ c ∧ c ≤ x.2)) w := fun W x hb => by
  have hc : W.cell? ⟨B, 0, none⟩ = some (.int .i64 c) := (hb.cell (p := ⟨B, 0, none⟩) hB).trans hcell
  have hBW : B < W.heap.size := Nat.lt_of_lt_of_le hB hb.size
  have hne : B ≠ W.heap.size := by omega
  have HBB := Lib.hid hb
  obtain ⟨x1, x2⟩ := x
  show Calls Tryd.prog 176 #[.agg #[.int .i64 x1, .int .i64 x2], .pointer (some ⟨B, 0, none⟩)] W _
  clear hcell hb
  by_cases h1 : x1 ≤ c
  · have e : decide (x1 ≤ c ∧ c ≤ x2) = decide (c ≤ x2) := by simp [h1]
    simp only [e]
    clear e
    go_enter Tryd.func176, Tryd.ntmps176
    go_wp2_with fail
    go_ret
    exact ⟨rfl, HBB.out.alloc HBB.out.size _⟩
  · have e : decide (x1 ≤ c ∧ c ≤ x2) = false := decide_eq_false (fun h => h1 h.1)
    simp only [e]
    clear e
    go_enter Tryd.func176, Tryd.ntmps176
    go_wp2_with fail
    go_ret
    exact ⟨rfl, HBB.out.alloc HBB.out.size _⟩
set_option maxHeartbeats 1000000 in
theorem rx_within {W : World} {g : Nat} (hR : RngR W g alnR) (c : Nat) (hg : g < W.heap.size) :
    Calls Tryd.prog 166 #[.slice (some ⟨g, 0, none⟩) 3 3, .int .i64 (c : Int)] W fun e w' => e = .returned (.bool (alnF c)) ∧ Below W.heap.size W w' := by
  have eg : ∀ args w, (callFunc 176 args).run Tryd.prog w = .ok (.enter 176 args) w := enters_of Tryd.func176 (by kernel_rfl) rfl
  have hR2 := hR.below ((Below.refl W.heap.size W).alloc (Nat.le_refl _) (.cells #[.int .i64 (c : Int)] 3)) hg
  have hcon := Go.Proofs.AnyQ.slices_ContainsFunc Tryd.sl_has 2 Tryd.isAgg143 Tryd.sizeOf143 encR (fun _ => rfl) (fun x => decide (x.1 ≤ (c : Int) ∧ (c : Int) ≤ x.2)) 176 #[.pointer (some ⟨W.heap.size, 0, none⟩)] eg g 0 3 3 alnR (W.alloc (.cells #[.int .i64 (c : Int)] 3))
    (rx_pred c W.heap.size _ (by simp) (by simp)) (by decide) (by decide) (by simp; omega) (fun j hj i v hi => by
      have h1 := hR2 j _ (List.getElem?_eq_getElem hj)
      rw [getElem!_pos alnR j hj] at hi
      rw [Nat.zero_add]
      match i, hi with
      | 0, hi => simp [encR] at hi; rw [← hi]; exact h1.1.1
      | 1, hi => simp [encR] at hi; rw [← hi]; exact h1.1.2
      | i + 2, hi => simp [encR] at hi)
  have e : (alnR.take 3).any (fun x => decide (x.1 ≤ (c : Int) ∧ (c : Int) ≤ x.2)) = alnF c := by
    rw [Bool.eq_iff_iff]
    simp [alnR, alnF]
    omega
  rw [e] at hcon
  have HC := Lib.hid hcon
  clear hcon hR hR2 e
  go_enter Tryd.func166, Tryd.ntmps166
  go_wp2_with (go_at_call 175; refine (show Calls _ _ _ _ _ from HC.out).mono ?_; rintro e w' ⟨rfl, hb⟩)
  go_ret
  exact ⟨rfl, ((Below.refl _ W).alloc (Nat.le_refl _) _).trans (hb.mono (by simp))⟩
/-- What 'meant' answers. -/
def meantP (c : Nat) : Option Nat → Int × Bool
  | none => ((c : Int), false)
  | some x => ((x : Int), true)
def meantZ (c : Nat) : Int × Bool := meantP c (meantF c)
theorem codeObj_rng (W : World) (l : List (Int × Int)) : RngR (W.alloc (codeObj l)) W.heap.size l := by
  refine RngR.of_row (cur := (flatR l).toArray) (t := 143) (heap_alloc_new W _) ?_
  rw [List.take_of_length_le]
  rw [flatR_len]
  exact Nat.le_refl _
set_option maxRecDepth 100000 in
set_option maxHeartbeats 1000000 in
theorem rx_meant (c : Nat) (W : World) : Calls Tryd.prog 155 #[.int .i64 (c : Int)] W fun e w' => e = .returned (.tuple #[.int .i64 (meantZ c).1, .bool (meantZ c).2]) ∧ Below W.heap.size W w' := by
  have one : ∀ (k x : Nat), meantF k = some x → meantZ k = ((x : Int), true) := fun k x h => by unfold meantZ; rw [h]; rfl
  by_cases h0 : c = 110
  · subst h0
    rw [one 110 10 rfl]
    go_enter Tryd.func155, Tryd.ntmps155
    go_wp2_with fail
    go_ret2
    exact ⟨rfl, Below.refl _ _⟩
  by_cases h1 : c = 116
  · subst h1
    rw [one 116 9 rfl]
    go_enter Tryd.func155, Tryd.ntmps155
    go_wp2_with fail
    go_ret2
    exact ⟨rfl, Below.refl _ _⟩
  by_cases h2 : c = 114
  · subst h2
    rw [one 114 13 rfl]
    go_enter Tryd.func155, Tryd.ntmps155
    go_wp2_with fail
    go_ret2
    exact ⟨rfl, Below.refl _ _⟩
  by_cases h3 : c = 102
  · subst h3
    rw [one 102 12 rfl]
    go_enter Tryd.func155, Tryd.ntmps155
    go_wp2_with fail
    go_ret2
    exact ⟨rfl, Below.refl _ _⟩
  by_cases h4 : c = 118
  · subst h4
    rw [one 118 11 rfl]
    go_enter Tryd.func155, Tryd.ntmps155
    go_wp2_with fail
    go_ret2
    exact ⟨rfl, Below.refl _ _⟩
  by_cases h5 : c = 97
  · subst h5
    rw [one 97 7 rfl]
    go_enter Tryd.func155, Tryd.ntmps155
    go_wp2_with fail
    go_ret2
    exact ⟨rfl, Below.refl _ _⟩
  by_cases h6 : c = 98
  · subst h6
    rw [one 98 8 rfl]
    go_enter Tryd.func155, Tryd.ntmps155
    go_wp2_with fail
    go_ret2
    exact ⟨rfl, Below.refl _ _⟩
  have e : meantZ c = ((c : Int), !alnF c) := by
    unfold meantZ meantF
    rw [if_neg h0, if_neg h1, if_neg h2, if_neg h3, if_neg h4, if_neg h5, if_neg h6]
    cases alnF c <;> rfl
  rw [e]
  have k0 : ((c : Int) == 110) = false := by simp; omega
  have k1 : ((c : Int) == 116) = false := by simp; omega
  have k2 : ((c : Int) == 114) = false := by simp; omega
  have k3 : ((c : Int) == 102) = false := by simp; omega
  have k4 : ((c : Int) == 118) = false := by simp; omega
  have k5 : ((c : Int) == 97) = false := by simp; omega
  have k6 : ((c : Int) == 98) = false := by simp; omega
  clear h0 h1 h2 h3 h4 h5 h6 e one
  have CC := Lib.hid (rx_codes (s := ⟨#[97, 108, 110, 117, 109]⟩) (l := alnR) rfl W)
  have hb0 := (Below.refl W.heap.size W).alloc (Nat.le_refl _) (codeObj alnR)
  have CW := Lib.hid (rx_within (codeObj_rng W alnR) c (by simp))
  obtain ⟨W1, hW1⟩ : ∃ W1, W.alloc (codeObj alnR) = W1 := ⟨_, rfl⟩
  rw [hW1] at CC CW hb0
  have HB := Lib.hid hb0
  have hs := hb0.size
  clear hW1 hb0
  go_enter Tryd.func155, Tryd.ntmps155
  go_wp2_with fail
  refine CC.out.mono ?_
  rintro e w' ⟨rfl, rfl⟩
  go_wp2_with fail
  refine (show Calls _ _ _ _ _ from CW.out).mono ?_
  rintro e w2 ⟨rfl, hb⟩
  go_wp2_with fail
  all_goals
    go_ret2
    first | exact ⟨rfl, HB.out.trans (hb.mono hs)⟩ | exact ⟨by simp_all, HB.out.trans (hb.mono hs)⟩
end Go.Proofs.YtdfacbcenogplaaDoor

namespace Go.Proofs.YtdfacbcenogplaaDoor
open Go.RowKit Go.Lib

/-- What a part that answers an int leaves. -/
def gInt (c : Nat) (v : Value) (_ : World) : Prop := v = .int .i64 (c : Int)
theorem nx_cod {s : ByteArray} {b : Bool} {i : Nat} : (nextZ s i b).1 ≤ 1114367 := by
  have h1 := get!_lt256 s i
  unfold nextZ
  split
  · simp
  · rw [Int.toNat_natCast]
    split
    · simp only
      omega
    · unfold chS chN
      split
      · simp only
        omega
      · have := (decodeN_lt (s.size - i) (s.get! i).toNat (s.get! (i + 1)).toNat (s.get! (i + 2)).toNat (s.get! (i + 3)).toNat).1
        omega
theorem meantZ_is {D : Nat} {M : Option Nat} (h : meantF D = M) : meantZ D = meantP D M := by
  subst h
  rfl
set_option maxRecDepth 100000 in
set_option maxHeartbeats 1000000 in
theorem rx_member {W : World} {pb a : Nat} {s : ByteArray} {b : Bool} {i n : Nat} (h : Prs W pb s b i n) (hi : i ≤ s.size) (hs : s.size ≤ 1024) (hE : Env W pb) :
    Calls Tryd.prog 163 #[pbP pb, .int .i64 (a : Int)] W (RxOut gInt pb s b n W (memF s b a i)) := by
  have CW := Lib.hid (fun W => rx_wrong pb a W)
  have hlt := Blk.lt h
  unfold memF
  by_cases h0 : i = s.size
  · rw [if_pos h0]
    have C0 := Lib.hid (rx_ended h true (by rw [size_beq, decide_eq_true_eq]; exact h0))
    clear h hE hlt h0
    go_enter Tryd.func163, Tryd.ntmps163
    go_wp2_with fail
    refine C0.out.mono ?_
    rintro e w1 ⟨rfl, hS⟩
    have HS := Lib.hid hS
    clear hS C0
    go_wp2_with fail
    refine (CW.out _).mono ?_
    rintro e w2 ⟨rfl, rfl⟩
    go_wp2_with fail
    exact ⟨rfl, rfl, HS.out.off⟩
  rw [if_neg h0]
  have C0 := Lib.hid (rx_ended h false (by rw [size_beq, decide_eq_false_iff_not]; exact h0))
  have C1 := Lib.hid (fun W1 (hS : Stp pb s b i n W W1) => rx_next hS.prs (by omega) hs (hE.step hS hlt))
  have HE := Lib.hid (fun W1 (j : Nat) (hS : Stp pb s b j n W W1) => hE.step hS hlt)
  have hx := nx_in s b i (by omega)
  have hcod := nx_cod (s := s) (b := b) (i := i)
  obtain ⟨C, hC⟩ : ∃ C, (nextZ s i b).1 = C := ⟨_, rfl⟩
  obtain ⟨Z, hZ⟩ : ∃ Z, (nextZ s i b).2 = Z := ⟨_, rfl⟩
  rw [hC, hZ] at C1
  rw [hZ] at hx
  rw [hC] at hcod
  simp only [hC, hZ]
  clear h hE hC hZ
  by_cases h1 : C = 92
  · subst h1
    rw [if_pos rfl]
    by_cases h2 : i + Z = s.size
    · rw [if_pos h2]
      have C2 := Lib.hid (fun W1 (hP : Prs W1 pb s b (i + Z) n) => rx_ended hP true (by rw [size_beq, decide_eq_true_eq]; exact h2))
      clear h2 h0
      go_enter Tryd.func163, Tryd.ntmps163
      go_wp2_with fail
      refine C0.out.mono ?_
      rintro e w1 ⟨rfl, hS⟩
      have HS := Lib.hid hS
      clear hS C0
      go_wp2_with fail
      refine (C1.out _ HS.out).mono ?_
      rintro e w2 ⟨rfl, hS⟩
      have HS2 := Lib.hid (HS.out.trans hS)
      clear hS HS C1
      go_wp2_with fail
      refine (C2.out _ HS2.out.prs).mono ?_
      rintro e w3 ⟨rfl, hS⟩
      have HS3 := Lib.hid (HS2.out.trans hS)
      clear hS HS2 C2
      go_wp2_with fail
      refine (CW.out _).mono ?_
      rintro e w4 ⟨rfl, rfl⟩
      go_wp2_with fail
      exact ⟨rfl, rfl, HS3.out.off⟩
    · rw [if_neg h2]
      have C2 := Lib.hid (fun W1 (hP : Prs W1 pb s b (i + Z) n) => rx_ended hP false (by rw [size_beq, decide_eq_false_iff_not]; exact h2))
      have C3 := Lib.hid (fun W1 (hS : Stp pb s b (i + Z) n W W1) => rx_next hS.prs (by omega) hs (HE.out W1 _ hS))
      obtain ⟨D, hD⟩ : ∃ D, (nextZ s ((i + Z : Nat) : Int) b).1 = D := ⟨_, rfl⟩
      obtain ⟨Y, hY⟩ : ∃ Y, (nextZ s ((i + Z : Nat) : Int) b).2 = Y := ⟨_, rfl⟩
      rw [hD, hY] at C3
      simp only [hD, hY]
      have CM := fun W => rx_meant D W
      obtain ⟨M, hM⟩ : ∃ M, meantF D = M := ⟨_, rfl⟩
      rw [meantZ_is hM] at CM
      rw [hM]
      clear h2 h0 hD hY hM
      cases M with
      | none =>
        simp only [meantP] at CM
        have CM := Lib.hid CM
        go_enter Tryd.func163, Tryd.ntmps163
        go_wp2_with fail
        refine C0.out.mono ?_
        rintro e w1 ⟨rfl, hS⟩
        have HS := Lib.hid hS
        clear hS C0
        go_wp2_with fail
        refine (C1.out _ HS.out).mono ?_
        rintro e w2 ⟨rfl, hS⟩
        have HS2 := Lib.hid (HS.out.trans hS)
        clear hS HS C1
        go_wp2_with fail
        refine (C2.out _ HS2.out.prs).mono ?_
        rintro e w3 ⟨rfl, hS⟩
        have HS3 := Lib.hid (HS2.out.trans hS)
        clear hS HS2 C2
        go_wp2_with fail
        refine (C3.out _ HS3.out).mono ?_
        rintro e w4 ⟨rfl, hS⟩
        have HS4 := Lib.hid (HS3.out.trans hS)
        clear hS HS3 C3
        go_wp2_with fail
        refine (CM.out _).mono ?_
        rintro e w5 ⟨rfl, hb⟩
        have HS5 := Lib.hid (HS4.out.below hb)
        clear hb HS4 CM
        go_wp2_with fail
        refine (CW.out _).mono ?_
        rintro e w6 ⟨rfl, rfl⟩
        go_wp2_with fail
        exact ⟨rfl, rfl, HS5.out.off⟩
      | some x =>
        simp only [meantP] at CM
        have CM := Lib.hid CM
        go_enter Tryd.func163, Tryd.ntmps163
        go_wp2_with fail
        refine C0.out.mono ?_
        rintro e w1 ⟨rfl, hS⟩
        have HS := Lib.hid hS
        clear hS C0
        go_wp2_with fail
        refine (C1.out _ HS.out).mono ?_
        rintro e w2 ⟨rfl, hS⟩
        have HS2 := Lib.hid (HS.out.trans hS)
        clear hS HS C1
        go_wp2_with fail
        refine (C2.out _ HS2.out.prs).mono ?_
        rintro e w3 ⟨rfl, hS⟩
        have HS3 := Lib.hid (HS2.out.trans hS)
        clear hS HS2 C2
        go_wp2_with fail
        refine (C3.out _ HS3.out).mono ?_
        rintro e w4 ⟨rfl, hS⟩
        have HS4 := Lib.hid (HS3.out.trans hS)
        clear hS HS3 C3
        go_wp2_with fail
        refine (CM.out _).mono ?_
        rintro e w5 ⟨rfl, hb⟩
        have HS5 := Lib.hid (HS4.out.below hb)
        clear hb HS4 CM
        go_wp2_with fail
        go_ret
        exact ⟨_, rfl, rfl, HS5.out⟩
  · rw [if_neg h1]
    have h1b : ((C : Int) != 92) = true := by simp; omega
    clear h0 h1
    go_enter Tryd.func163, Tryd.ntmps163
    go_wp2_with fail
    refine C0.out.mono ?_
    rintro e w1 ⟨rfl, hS⟩
    have HS := Lib.hid hS
    clear hS C0
    go_wp2_with fail
    refine (C1.out _ HS.out).mono ?_
    rintro e w2 ⟨rfl, hS⟩
    have HS2 := Lib.hid (HS.out.trans hS)
    clear hS HS C1
    go_wp2_with fail
    go_ret
    exact ⟨_, rfl, rfl, HS2.out⟩
end Go.Proofs.YtdfacbcenogplaaDoor

namespace Go.Proofs.YtdfacbcenogplaaDoor
open Go.RowKit Go.Lib

/-- What a part that answers ranges leaves: a row that was not there, with all numbers fit. -/
def gRng (n0 : Nat) (l : List (Int × Int)) (v : Value) (w' : World) : Prop :=
  ∃ g cap, v = .slice (some ⟨g, 0, none⟩) l.length cap ∧ n0 ≤ g ∧ RngR w' g l ∧ l ≠ [] ∧ l.length ≤ 4 ∧ Bnd l ∧ Fit l
theorem RngR.off {W W' : World} {g pb : Nat} {l : List (Int × Int)} (h : RngR W g l) (o : Off2 pb pb W W') (hne : g ≠ pb) : RngR W' g l := fun j r hj => by
  obtain ⟨⟨a, b⟩, c, d⟩ := h j r hj
  have hk := o.block g (World.block_lt_of_cell? W _ a) hne hne
  exact ⟨⟨(World.cell?_of_block (a := ⟨g, j * 2, none⟩) hk).trans a, (World.cell?_of_block (a := ⟨g, j * 2 + 1, none⟩) hk).trans b⟩, (World.frozen?_of_block (a := ⟨g, j * 2, none⟩) hk).trans c, (World.frozen?_of_block (a := ⟨g, j * 2 + 1, none⟩) hk).trans d⟩
set_option maxRecDepth 100000 in
set_option maxHeartbeats 1000000 in
theorem rx_class {W : World} {pb a : Nat} {s : ByteArray} {b : Bool} {i n : Nat} (h : Prs W pb s b i n) (h2 : st2 s i 91 58 = true) (hs : s.size ≤ 1024) (hE : Env W pb) :
    Calls Tryd.prog 162 #[pbP pb, .int .i64 (a : Int)] W (RxOut (gRng W.heap.size) pb s b n W (clsF s a i)) := by
  have CW := Lib.hid (fun W => rx_wrong pb a W)
  have hlt := Blk.lt h
  have hi2 := st2_lt h2
  have C0 := Lib.hid (rx_take h (by omega) hs ⟨#[91, 58]⟩ true ((pre2 s i 91 58).trans h2) (show 2 ≤ 2 by omega))
  have HE := Lib.hid (fun W1 (j : Nat) (hS : Stp pb s b j n W W1) => hE.step hS hlt)
  have hct := fun (W1 : World) (m : Int) (hm : W1.cell? ⟨0, 0, none⟩ = some (.int .i64 m)) => Tryd.strings_Cut (s.extract (i + 2) s.size) ⟨#[58, 93]⟩ m W1 (by rw [ByteArray.size_extract]; omega) hm
  rw [extract_to_end] at hct
  change ∀ (W1 : World) (m : Int), _ → Calls _ _ _ _ (fun e w' => e = .returned (.tuple #[.string ⟨(cut (s.data.toList.drop (i + 2)) [58, 93]).1.toArray⟩, .string ⟨(cut (s.data.toList.drop (i + 2)) [58, 93]).2.1.toArray⟩, .bool (cut (s.data.toList.drop (i + 2)) [58, 93]).2.2]) ∧ _) at hct
  have hcls := fun l k (h : clsF s a i = .ok l k) => cls_in (s := s) (a := a) (i := i) h
  unfold clsF at hcls ⊢
  obtain ⟨N, hN⟩ : ∃ N, (cut (s.data.toList.drop (i + 2)) [58, 93]).1 = N := ⟨_, rfl⟩
  obtain ⟨R, hR⟩ : ∃ R, (cut (s.data.toList.drop (i + 2)) [58, 93]).2.1 = R := ⟨_, rfl⟩
  obtain ⟨q, hq⟩ : ∃ q, (cut (s.data.toList.drop (i + 2)) [58, 93]).2.2 = q := ⟨_, rfl⟩
  rw [hN, hR, hq] at hct
  rw [hN, hq] at hcls
  rw [hN, hq]
  have CT := Lib.hid hct
  have hNl : N.length = (ByteArray.mk N.toArray).size := by simp [ByteArray.size]
  obtain ⟨S, hS⟩ : ∃ S : ByteArray, ByteArray.mk N.toArray = S := ⟨_, rfl⟩
  have hSl : clsL S.data.toList = clsL N := by rw [← hS]
  rw [hS] at CT hNl
  obtain ⟨M, hM⟩ : ∃ M, clsL N = M := ⟨_, rfl⟩
  rw [hM] at hSl hcls
  rw [hM]
  clear hct h hE hN hR hq hS hM
  cases M with
  | none =>
    have CN := Lib.hid (fun W => rx_codes_none S W hSl)
    have e : (if q = true then (Rs.bad a 90 : Rs (List (Int × Int))) else .bad a 90) = .bad a 90 := by split <;> rfl
    simp only [e]
    clear hcls e hSl
    go_enter Tryd.func162, Tryd.ntmps162
    go_wp2_with fail
    refine C0.out.mono ?_
    rintro e w1 ⟨rfl, hS⟩
    have HS := Lib.hid (show Stp pb s b (i + 2) n W w1 from hS)
    obtain ⟨m, hm⟩ := (HE.out _ _ hS).mx
    obtain ⟨q0, _, q2, _⟩ := HS.out.prs.four
    clear hS C0
    go_wp2_with fail
    go_quiet ((go_at_call 172; exact Calls.quiet_of (CT.out _ m hm)))
    obtain ⟨w2, hw2⟩ : ∃ w2, w1.drewN nq = w2 := ⟨_, rfl⟩
    have HS2 := Lib.hid (show Stp pb s b (i + 2) n W w2 from hw2 ▸ HS.out.dr nq)
    rw [hw2]
    clear hw2 hm q0 q2 CT HS
    go_wp2_with fail
    refine (CN.out _).mono ?_
    rintro e w3 ⟨rfl, rfl⟩
    have hnn := fun (w : World) (A : Option Addr) (n c : Nat) => Lib.run_eql_slice_nil (P := Tryd.prog) w 55 143 A n c 0 0 Tryd.underlying55
    cases q
    · go_wp2_with fail
      refine (CW.out _).mono ?_
      rintro e w4 ⟨rfl, rfl⟩
      go_wp2_with fail
      exact ⟨rfl, rfl, HS2.out.off⟩
    · go_wp2_with fail
      refine (CW.out _).mono ?_
      rintro e w4 ⟨rfl, rfl⟩
      go_wp2_with fail
      exact ⟨rfl, rfl, HS2.out.off⟩
  | some l =>
    have CN := Lib.hid (fun W => rx_codes (l := l) hSl W)
    cases q with
    | false =>
      simp only [Bool.false_eq_true, if_false]
      clear hcls hSl
      go_enter Tryd.func162, Tryd.ntmps162
      go_wp2_with fail
      refine C0.out.mono ?_
      rintro e w1 ⟨rfl, hS⟩
      have HS := Lib.hid (show Stp pb s b (i + 2) n W w1 from hS)
      obtain ⟨m, hm⟩ := (HE.out _ _ hS).mx
      obtain ⟨q0, _, q2, _⟩ := HS.out.prs.four
      clear hS C0
      go_wp2_with fail
      go_quiet ((go_at_call 172; exact Calls.quiet_of (CT.out _ m hm)))
      obtain ⟨w2, hw2⟩ : ∃ w2, w1.drewN nq = w2 := ⟨_, rfl⟩
      have HS2 := Lib.hid (show Stp pb s b (i + 2) n W w2 from hw2 ▸ HS.out.dr nq)
      rw [hw2]
      clear hw2 hm q0 q2 CT HS
      go_wp2_with fail
      refine (CN.out _).mono ?_
      rintro e w3 ⟨rfl, rfl⟩
      go_wp2_with fail
      refine (CW.out _).mono ?_
      rintro e w4 ⟨rfl, rfl⟩
      go_wp2_with fail
      exact ⟨rfl, rfl, (HS2.out.alloc _).off⟩
    | true =>
      have hk := hcls l _ rfl
      simp only [if_true] at hk ⊢
      obtain ⟨c1, c2, c3, c4⟩ := cls_fit hSl
      obtain ⟨k, hk2⟩ : ∃ k, i + 2 + N.length + 2 = k := ⟨_, rfl⟩
      rw [hk2] at hk ⊢
      have hkI : ((i + 2 : Nat) : Int) + ((S.size : Int) + 2) = (k : Int) := by omega
      have hw1 : IntKind.i64.wrap ((S.size : Int) + 2) = (S.size : Int) + 2 := by simp [IntKind.wrap, IntKind.bits, IntKind.signed]; omega
      have hw2 : IntKind.i64.wrap (((i + 2 : Nat) : Int) + ((S.size : Int) + 2)) = (k : Int) := by rw [hkI]; simp [IntKind.wrap, IntKind.bits, IntKind.signed]; omega
      obtain ⟨i2, hi2'⟩ : ∃ i2, i + 2 = i2 := ⟨_, rfl⟩
      rw [hi2'] at CT hw2
      have HC := Lib.hid (And.intro c1 (And.intro c2 (And.intro c3 c4)))
      have hnn := fun (w : World) (A : Option Addr) (n c : Nat) => Lib.run_eql_slice_nil (P := Tryd.prog) w 55 143 A n c 0 0 Tryd.underlying55
      clear hcls hSl hk c1 c2 c3 c4 hkI hk2
      go_enter Tryd.func162, Tryd.ntmps162
      go_wp2_with fail
      refine C0.out.mono ?_
      rintro e w1 ⟨rfl, hS⟩
      have HS := Lib.hid (show Stp pb s b i2 n W w1 from hi2' ▸ hS)
      obtain ⟨m, hm⟩ := (HE.out _ _ HS.out).mx
      obtain ⟨q0, _, q2, _⟩ := HS.out.prs.four
      clear hS C0
      go_wp2_with fail
      go_quiet ((go_at_call 172; exact Calls.quiet_of (CT.out _ m hm)))
      obtain ⟨w2, hw2⟩ : ∃ w2, w1.drewN nq = w2 := ⟨_, rfl⟩
      have HS2 := Lib.hid (show Stp pb s b i2 n W w2 from hw2 ▸ HS.out.dr nq)
      rw [hw2]
      clear hw2 hm q0 q2 CT HS
      go_wp2_with fail
      refine (CN.out _).mono ?_
      rintro e w3 ⟨rfl, rfl⟩
      have R3 := Lib.hid (codeObj_rng w2 l)
      have S3 := HS2.out.alloc (codeObj l)
      have hg3 : w2.heap.size < (w2.alloc (codeObj l)).heap.size := by simp
      have hs2 := HS2.out.off.size
      have hne : w2.heap.size ≠ pb := by have := Blk.lt HS2.out.prs; omega
      obtain ⟨w3, hw3⟩ : ∃ w3, w2.alloc (codeObj l) = w3 := ⟨_, rfl⟩
      rw [hw3] at R3 S3 hg3
      rw [hw3]
      have HS3 := Lib.hid S3
      obtain ⟨_, _, q2, _, f2, _⟩ := S3.prs.four
      clear S3 hw3 HS2
      go_wp2_with fail
      go_ret
      exact ⟨_, rfl, ⟨_, _, rfl, hs2, R3.out.off (Off2.setCell _ _ _ 2 _) hne, HC.out⟩, HS3.out.to k⟩
end Go.Proofs.YtdfacbcenogplaaDoor

namespace Go.Proofs.YtdfacbcenogplaaDoor
open Go.RowKit Go.Lib

theorem meant_bnd {c x : Nat} (h : meantF c = some x) (hc : c ≤ 1114367) : x ≤ 1114367 := by
  unfold meantF at h
  iterate 7
    rcases ite_or h with ⟨_, h⟩ | ⟨_, h⟩
    · cases h
      omega
  rcases ite_or h with ⟨_, h⟩ | ⟨_, h⟩
  · cases h
  · cases h
    exact hc
theorem mem_bnd {s : ByteArray} {b : Bool} {a i c k : Nat} (h : memF s b a i = .ok c k) : c ≤ 1114367 := by
  unfold memF at h
  rcases ite_or h with ⟨_, h⟩ | ⟨_, h⟩
  · cases h
  rcases ite_or h with ⟨_, h⟩ | ⟨_, h⟩
  · rcases ite_or h with ⟨_, h⟩ | ⟨_, h⟩
    · cases h
    · cases hm : meantF (nextZ s ((i + (nextZ s i b).2 : Nat) : Int) b).1 with
      | none => rw [hm] at h; cases h
      | some x =>
        rw [hm] at h
        cases h
        exact meant_bnd hm nx_cod
  · cases h
    exact nx_cod
/-- A row of one range. -/
theorem one_rng {W w : World} {pb : Nat} {s : ByteArray} {b : Bool} {k n lo hi : Nat} (hS : Stp pb s b k n W w) (h1 : lo ≤ hi) (h2 : hi ≤ 1114367) :
    RxOut (gRng W.heap.size) pb s b n W (.ok [((lo : Int), (hi : Int))] k) (.returned (.slice (some ⟨w.heap.size, 0, none⟩) 1 1)) (w.alloc (.cells #[.int .i64 (lo : Int), .int .i64 (hi : Int)] 143)) := by
  refine ⟨_, rfl, ⟨w.heap.size, 1, rfl, hS.off.size, codeObj_rng w [((lo : Int), (hi : Int))], by simp, by simp, ?_, ?_⟩, hS.alloc _⟩
  · intro r hr
    simp at hr
    subst hr
    simp only
    omega
  · intro r hr
    simp at hr
    subst hr
    simp only
    omega
theorem gRng_mono {n m : Nat} (h : m ≤ n) {l : List (Int × Int)} {v : Value} {w : World} (hg : gRng n l v w) : gRng m l v w := by
  obtain ⟨g, cap, h1, h2, h3⟩ := hg
  exact ⟨g, cap, h1, Nat.le_trans h h2, h3⟩
set_option maxRecDepth 100000 in
set_option maxHeartbeats 1000000 in
theorem rx_item {W : World} {pb a : Nat} {s : ByteArray} {b : Bool} {i n : Nat} (h : Prs W pb s b i n) (hi : i ≤ s.size) (hs : s.size ≤ 1024) (hE : Env W pb) :
    Calls Tryd.prog 151 #[pbP pb, .int .i64 (a : Int)] W (RxOut (gRng W.heap.size) pb s b n W (itmF s b a i)) := by
  have CW := Lib.hid (fun W => rx_wrong pb a W)
  have hlt := Blk.lt h
  have HE := Lib.hid (fun W1 (j : Nat) (hS : Stp pb s b j n W W1) => hE.step hS hlt)
  obtain ⟨p0, h0⟩ : ∃ p, st2 s i 91 58 = p := ⟨_, rfl⟩
  have C0 := Lib.hid (rx_stands2 h hi 91 58 p0 h0)
  unfold itmF
  rw [h0]
  cases p0 with
  | true =>
    have CC := Lib.hid (fun W1 (hS : Stp pb s b i n W W1) => rx_class (a := a) hS.prs h0 hs (HE.out _ _ hS))
    simp only [if_true]
    clear h hE
    obtain ⟨R, hR⟩ : ∃ R, clsF s a i = R := ⟨_, rfl⟩
    rw [hR] at CC ⊢
    clear hR
    cases R with
    | bad k er =>
      go_enter Tryd.func151, Tryd.ntmps151
      go_wp2_with fail
      refine C0.out.mono ?_
      rintro e w1 ⟨rfl, hS⟩
      have HS := Lib.hid hS
      clear hS C0
      go_wp2_with fail
      refine (CC.out _ HS.out).mono ?_
      rintro e w2 ⟨rfl, hO⟩
      have HO := Lib.hid hO
      clear hO
      go_wp2_with fail
      exact ⟨rfl, rfl, HS.out.off.trans HO.out⟩
    | ok l k =>
      go_enter Tryd.func151, Tryd.ntmps151
      go_wp2_with fail
      refine C0.out.mono ?_
      rintro e w1 ⟨rfl, hS⟩
      have HS := Lib.hid hS
      clear hS C0
      go_wp2_with fail
      refine (CC.out _ HS.out).mono ?_
      rintro e w2 ⟨v, rfl, hG, hS⟩
      have HS2 := Lib.hid (HS.out.trans hS)
      have HG := Lib.hid (gRng_mono HS.out.off.size hG)
      clear hS hG
      go_wp2_with fail
      go_ret
      exact ⟨_, rfl, HG.out, HS2.out⟩
  | false =>
    simp only [Bool.false_eq_true, if_false]
    have CM := Lib.hid (fun W1 (hS : Stp pb s b i n W W1) => rx_member (a := a) hS.prs hi hs (HE.out _ _ hS))
    cases hm : memF s b a i with
    | bad k er =>
      rw [hm] at CM
      clear h hE h0
      go_enter Tryd.func151, Tryd.ntmps151
      go_wp2_with fail
      refine C0.out.mono ?_
      rintro e w1 ⟨rfl, hS⟩
      have HS := Lib.hid hS
      clear hS C0
      go_wp2_with fail
      refine (CM.out _ HS.out).mono ?_
      rintro e w2 ⟨rfl, hO⟩
      have HO := Lib.hid hO
      clear hO
      go_wp2_with fail
      exact ⟨rfl, rfl, HS.out.off.trans HO.out⟩
    | ok lo k1 =>
      rw [hm] at CM
      have hk1 := mem_in hi hm
      have hlo := mem_bnd hm
      have irr : ¬ (lo : Int) > (lo : Int) := Int.lt_irrefl _
      obtain ⟨p1, h1⟩ : ∃ p, st2 s k1 45 93 = p := ⟨_, rfl⟩
      have C1 := Lib.hid (fun W1 (hS : Stp pb s b k1 n W W1) => rx_stands2 hS.prs hk1.2 45 93 p1 h1)
      obtain ⟨p2, h2⟩ : ∃ p, st1 s k1 45 = p := ⟨_, rfl⟩
      have C2 := Lib.hid (fun W1 (hS : Stp pb s b k1 n W W1) => rx_take1 hS.prs hk1.2 hs 45 p2 h2)
      simp only [h1, h2]
      clear h hE h0 hm h1
      cases p1 with
      | true =>
        simp only [Bool.not_true, Bool.false_and, Bool.false_eq_true, if_false]
        go_enter Tryd.func151, Tryd.ntmps151
        go_wp2_with fail
        refine C0.out.mono ?_
        rintro e w1 ⟨rfl, hS⟩
        have HS := Lib.hid hS
        clear hS C0
        go_wp2_with fail
        refine (CM.out _ HS.out).mono ?_
        rintro e w2 ⟨v, rfl, rfl, hS⟩
        have HS2 := Lib.hid (HS.out.trans hS)
        clear hS HS CM
        go_wp2_with fail
        refine (C1.out _ HS2.out).mono ?_
        rintro e w3 ⟨rfl, hS⟩
        have HS3 := Lib.hid (HS2.out.trans hS)
        clear hS HS2 C1
        go_wp2_with fail
        go_ret
        exact one_rng HS3.out (Nat.le_refl _) hlo
      | false =>
        simp only [Bool.not_false, Bool.true_and]
        cases p2 with
        | false =>
          simp only [Bool.false_eq_true, if_false]
          go_enter Tryd.func151, Tryd.ntmps151
          go_wp2_with fail
          refine C0.out.mono ?_
          rintro e w1 ⟨rfl, hS⟩
          have HS := Lib.hid hS
          clear hS C0
          go_wp2_with fail
          refine (CM.out _ HS.out).mono ?_
          rintro e w2 ⟨v, rfl, rfl, hS⟩
          have HS2 := Lib.hid (HS.out.trans hS)
          clear hS HS CM
          go_wp2_with fail
          refine (C1.out _ HS2.out).mono ?_
          rintro e w3 ⟨rfl, hS⟩
          have HS3 := Lib.hid (HS2.out.trans hS)
          clear hS HS2 C1
          go_wp2_with fail
          refine (C2.out _ HS3.out).mono ?_
          rintro e w4 ⟨rfl, hS⟩
          have HS4 := Lib.hid (HS3.out.trans hS)
          clear hS HS3 C2
          go_wp2_with fail
          go_ret
          exact one_rng HS4.out (Nat.le_refl _) hlo
        | true =>
          simp only [if_true]
          have hk2 := st1_lt h2
          obtain ⟨p3, h3⟩ : ∃ p, st2 s (k1 + 1) 91 58 = p := ⟨_, rfl⟩
          have C3 := Lib.hid (fun W1 (hS : Stp pb s b (k1 + 1) n W W1) => rx_stands2 hS.prs hk2 91 58 p3 h3)
          have CN := Lib.hid (fun W1 (hS : Stp pb s b (k1 + 1) n W W1) => rx_member (a := a) hS.prs hk2 hs (HE.out _ _ hS))
          rw [h3]
          cases p3 with
          | true =>
            simp only [if_true]
            clear h2 h3 CN
            go_enter Tryd.func151, Tryd.ntmps151
            go_wp2_with fail
            refine C0.out.mono ?_
            rintro e w1 ⟨rfl, hS⟩
            have HS := Lib.hid hS
            clear hS C0
            go_wp2_with fail
            refine (CM.out _ HS.out).mono ?_
            rintro e w2 ⟨v, rfl, rfl, hS⟩
            have HS2 := Lib.hid (HS.out.trans hS)
            clear hS HS CM
            go_wp2_with fail
            refine (C1.out _ HS2.out).mono ?_
            rintro e w3 ⟨rfl, hS⟩
            have HS3 := Lib.hid (HS2.out.trans hS)
            clear hS HS2 C1
            go_wp2_with fail
            refine (C2.out _ HS3.out).mono ?_
            rintro e w4 ⟨rfl, hS⟩
            have HS4 := Lib.hid (show Stp pb s b (k1 + 1) n W w4 from HS3.out.trans hS)
            clear hS HS3 C2
            go_wp2_with fail
            refine (C3.out _ HS4.out).mono ?_
            rintro e w5 ⟨rfl, hS⟩
            have HS5 := Lib.hid (HS4.out.trans hS)
            clear hS HS4 C3
            go_wp2_with fail
            refine (CW.out _).mono ?_
            rintro e w6 ⟨rfl, rfl⟩
            go_wp2_with fail
            exact ⟨rfl, rfl, HS5.out.off⟩
          | false =>
            simp only [Bool.false_eq_true, if_false]
            clear h2 h3
            cases hm2 : memF s b a (k1 + 1) with
            | bad k er =>
              rw [hm2] at CN
              clear hm2
              go_enter Tryd.func151, Tryd.ntmps151
              go_wp2_with fail
              refine C0.out.mono ?_
              rintro e w1 ⟨rfl, hS⟩
              have HS := Lib.hid hS
              clear hS C0
              go_wp2_with fail
              refine (CM.out _ HS.out).mono ?_
              rintro e w2 ⟨v, rfl, rfl, hS⟩
              have HS2 := Lib.hid (HS.out.trans hS)
              clear hS HS CM
              go_wp2_with fail
              refine (C1.out _ HS2.out).mono ?_
              rintro e w3 ⟨rfl, hS⟩
              have HS3 := Lib.hid (HS2.out.trans hS)
              clear hS HS2 C1
              go_wp2_with fail
              refine (C2.out _ HS3.out).mono ?_
              rintro e w4 ⟨rfl, hS⟩
              have HS4 := Lib.hid (show Stp pb s b (k1 + 1) n W w4 from HS3.out.trans hS)
              clear hS HS3 C2
              go_wp2_with fail
              refine (C3.out _ HS4.out).mono ?_
              rintro e w5 ⟨rfl, hS⟩
              have HS5 := Lib.hid (HS4.out.trans hS)
              clear hS HS4 C3
              go_wp2_with fail
              refine (CN.out _ HS5.out).mono ?_
              rintro e w6 ⟨rfl, hO⟩
              have HO := Lib.hid hO
              clear hO
              go_wp2_with fail
              exact ⟨rfl, rfl, HS5.out.off.trans HO.out⟩
            | ok hi2 k2 =>
              rw [hm2] at CN
              have hhi := mem_bnd hm2
              clear hm2
              simp only
              by_cases hlh : hi2 < lo
              · rw [if_pos hlh]
                have hg : (lo : Int) > (hi2 : Int) := by omega
                go_enter Tryd.func151, Tryd.ntmps151
                go_wp2_with fail
                refine C0.out.mono ?_
                rintro e w1 ⟨rfl, hS⟩
                have HS := Lib.hid hS
                clear hS C0
                go_wp2_with fail
                refine (CM.out _ HS.out).mono ?_
                rintro e w2 ⟨v, rfl, rfl, hS⟩
                have HS2 := Lib.hid (HS.out.trans hS)
                clear hS HS CM
                go_wp2_with fail
                refine (C1.out _ HS2.out).mono ?_
                rintro e w3 ⟨rfl, hS⟩
                have HS3 := Lib.hid (HS2.out.trans hS)
                clear hS HS2 C1
                go_wp2_with fail
                refine (C2.out _ HS3.out).mono ?_
                rintro e w4 ⟨rfl, hS⟩
                have HS4 := Lib.hid (show Stp pb s b (k1 + 1) n W w4 from HS3.out.trans hS)
                clear hS HS3 C2
                go_wp2_with fail
                refine (C3.out _ HS4.out).mono ?_
                rintro e w5 ⟨rfl, hS⟩
                have HS5 := Lib.hid (HS4.out.trans hS)
                clear hS HS4 C3
                go_wp2_with fail
                refine (CN.out _ HS5.out).mono ?_
                rintro e w6 ⟨v, rfl, rfl, hS⟩
                have HS6 := Lib.hid (HS5.out.trans hS)
                clear hS HS5 CN
                go_wp2_with fail
                refine (CW.out _).mono ?_
                rintro e w7 ⟨rfl, rfl⟩
                go_wp2_with fail
                exact ⟨rfl, rfl, HS6.out.off⟩
              · rw [if_neg hlh]
                have hg : ¬ (lo : Int) > (hi2 : Int) := by omega
                go_enter Tryd.func151, Tryd.ntmps151
                go_wp2_with fail
                refine C0.out.mono ?_
                rintro e w1 ⟨rfl, hS⟩
                have HS := Lib.hid hS
                clear hS C0
                go_wp2_with fail
                refine (CM.out _ HS.out).mono ?_
                rintro e w2 ⟨v, rfl, rfl, hS⟩
                have HS2 := Lib.hid (HS.out.trans hS)
                clear hS HS CM
                go_wp2_with fail
                refine (C1.out _ HS2.out).mono ?_
                rintro e w3 ⟨rfl, hS⟩
                have HS3 := Lib.hid (HS2.out.trans hS)
                clear hS HS2 C1
                go_wp2_with fail
                refine (C2.out _ HS3.out).mono ?_
                rintro e w4 ⟨rfl, hS⟩
                have HS4 := Lib.hid (show Stp pb s b (k1 + 1) n W w4 from HS3.out.trans hS)
                clear hS HS3 C2
                go_wp2_with fail
                refine (C3.out _ HS4.out).mono ?_
                rintro e w5 ⟨rfl, hS⟩
                have HS5 := Lib.hid (HS4.out.trans hS)
                clear hS HS4 C3
                go_wp2_with fail
                refine (CN.out _ HS5.out).mono ?_
                rintro e w6 ⟨v, rfl, rfl, hS⟩
                have HS6 := Lib.hid (HS5.out.trans hS)
                clear hS HS5 CN
                go_wp2_with fail
                go_ret
                exact one_rng HS6.out (by omega) hhi
end Go.Proofs.YtdfacbcenogplaaDoor

namespace Go.Proofs.YtdfacbcenogplaaDoor
open Go.Lib

theorem nx_asc (s : ByteArray) (i : Nat) (b : Bool) (h : i < s.size) (hc : (s.get! i).toNat < 128) : nextZ s (i : Int) b = ((s.get! i).toNat, 1) := by
  unfold nextZ
  rw [if_neg (by omega), Int.toNat_natCast]
  cases b with
  | true => rfl
  | false =>
    rw [if_neg (by simp), chS, chN, dec_one _ _ _ _ _ hc, if_neg (by simp only [Prod.mk.injEq]; omega)]
theorem get_of_drop {s : ByteArray} {i : Nat} {c : UInt8} {l : List UInt8} (h : s.data.toList.drop i = c :: l) : i < s.size ∧ s.get! i = c ∧ s.data.toList.drop (i + 1) = l := by
  have hi : i < s.size := by
    rcases Nat.lt_or_ge i s.size with h1 | h1
    · exact h1
    · rw [rx_drop0 s i h1] at h
      cases h
  rw [rx_drop s i hi] at h
  injection h with h1 h2
  exact ⟨hi, h1, h2⟩
end Go.Proofs.YtdfacbcenogplaaDoor

namespace Go.Proofs.YtdfacbcenogplaaDoor
open Go.Lib

/-- Decoding at two places that begin alike. -/
theorem dec_local (n n' b0 b1 b2 b3 c1 c2 c3 : Nat) (hb0 : b0 < 256)
    (h1 : 1 < n' ∧ c1 / 64 = 2 → 1 < n ∧ b1 = c1) (h2 : (1 < n' ∧ c1 / 64 = 2) ∧ (2 < n' ∧ c2 / 64 = 2) → 2 < n ∧ b2 = c2) (h3 : (1 < n' ∧ c1 / 64 = 2) ∧ (2 < n' ∧ c2 / 64 = 2) ∧ (3 < n' ∧ c3 / 64 = 2) → 3 < n ∧ b3 = c3)
    (e1 : 2 ≤ (decodeN n b0 b1 b2 b3).2 → 1 < n' ∧ c1 = b1) (e2 : 3 ≤ (decodeN n b0 b1 b2 b3).2 → 2 < n' ∧ c2 = b2) (e3 : 4 ≤ (decodeN n b0 b1 b2 b3).2 → 3 < n' ∧ c3 = b3) :
    decodeN n' b0 c1 c2 c3 = decodeN n b0 b1 b2 b3 := by
  by_cases a1 : b0 < 128
  · rw [dec_one _ _ _ _ _ a1, dec_one _ _ _ _ _ a1]
  by_cases a2 : 194 ≤ b0 ∧ b0 ≤ 223
  · by_cases v : 2 ≤ n ∧ b1 / 64 = 2
    · have hd := dec_two n b0 b1 b2 b3 v.1 v.2 a2
      rw [hd] at e1 ⊢
      obtain ⟨x1, rfl⟩ := e1 (Nat.le_refl _)
      exact dec_two n' b0 c1 c2 c3 x1 v.2 a2
    · rw [dec_none n b0 b1 b2 b3 (by omega), dec_none n' b0 c1 c2 c3 (by omega)]
  by_cases a3 : 224 ≤ b0 ∧ b0 ≤ 239
  · by_cases v : 3 ≤ n ∧ b1 / 64 = 2 ∧ b2 / 64 = 2
    · obtain ⟨r, hr⟩ : ∃ r, r = b0 % 16 * 4096 + b1 % 64 * 64 + b2 % 64 := ⟨_, rfl⟩
      have hd := dec_three n b0 b1 b2 b3 r v.1 v.2.1 v.2.2 a3 hr
      by_cases hx : r < 2048 ∨ 1114111 < r ∨ (55296 ≤ r ∧ r ≤ 57343)
      · rw [if_pos hx] at hd
        rw [hd]
        by_cases v' : 3 ≤ n' ∧ c1 / 64 = 2 ∧ c2 / 64 = 2
        · obtain ⟨_, rfl⟩ := h1 ⟨by omega, v'.2.1⟩
          obtain ⟨_, rfl⟩ := h2 ⟨⟨by omega, v'.2.1⟩, by omega, v'.2.2⟩
          rw [dec_three n' b0 b1 b2 c3 r v'.1 v.2.1 v.2.2 a3 hr, if_pos hx]
        · rw [dec_none n' b0 c1 c2 c3 (by omega)]
      · rw [if_neg hx] at hd
        rw [hd] at e1 e2 ⊢
        obtain ⟨_, rfl⟩ := e1 (show 2 ≤ 3 by decide)
        obtain ⟨x2, rfl⟩ := e2 (show 3 ≤ 3 by decide)
        rw [dec_three n' b0 c1 c2 c3 r x2 v.2.1 v.2.2 a3 hr, if_neg hx]
    · rw [dec_none n b0 b1 b2 b3 (by omega), dec_none n' b0 c1 c2 c3 (by omega)]
  by_cases a4 : 240 ≤ b0 ∧ b0 ≤ 244
  · by_cases v : 4 ≤ n ∧ b1 / 64 = 2 ∧ b2 / 64 = 2 ∧ b3 / 64 = 2
    · obtain ⟨r, hr⟩ : ∃ r, r = b0 % 8 * 262144 + b1 % 64 * 4096 + b2 % 64 * 64 + b3 % 64 := ⟨_, rfl⟩
      have hd := dec_four n b0 b1 b2 b3 r v.1 v.2.1 v.2.2.1 v.2.2.2 a4 hr
      by_cases hx : r < 65536 ∨ 1114111 < r ∨ (55296 ≤ r ∧ r ≤ 57343)
      · rw [if_pos hx] at hd
        rw [hd]
        by_cases v' : 4 ≤ n' ∧ c1 / 64 = 2 ∧ c2 / 64 = 2 ∧ c3 / 64 = 2
        · obtain ⟨_, rfl⟩ := h1 ⟨by omega, v'.2.1⟩
          obtain ⟨_, rfl⟩ := h2 ⟨⟨by omega, v'.2.1⟩, by omega, v'.2.2.1⟩
          obtain ⟨_, rfl⟩ := h3 ⟨⟨by omega, v'.2.1⟩, ⟨by omega, v'.2.2.1⟩, by omega, v'.2.2.2⟩
          rw [dec_four n' b0 b1 b2 b3 r v'.1 v.2.1 v.2.2.1 v.2.2.2 a4 hr, if_pos hx]
        · rw [dec_none n' b0 c1 c2 c3 (by omega)]
      · rw [if_neg hx] at hd
        rw [hd] at e1 e2 e3 ⊢
        obtain ⟨_, rfl⟩ := e1 (show 2 ≤ 4 by decide)
        obtain ⟨_, rfl⟩ := e2 (show 3 ≤ 4 by decide)
        obtain ⟨x3, rfl⟩ := e3 (show 4 ≤ 4 by decide)
        rw [dec_four n' b0 c1 c2 c3 r x3 v.2.1 v.2.2.1 v.2.2.2 a4 hr, if_neg hx]
    · rw [dec_none n b0 b1 b2 b3 (by omega), dec_none n' b0 c1 c2 c3 (by omega)]
  · rw [dec_none n b0 b1 b2 b3 (by omega), dec_none n' b0 c1 c2 c3 (by omega)]

/-- Two strings at two places: the same character. -/
theorem next_local (s t : ByteArray) (p q : Nat) (hp : p < s.size) (hq : q < t.size) (h0 : t.get! q = s.get! p)
    (hc : ∀ i, i < 3 → (∀ j, j ≤ i → q + 1 + j < t.size ∧ (t.get! (q + 1 + j)).toNat / 64 = 2) → p + 1 + i < s.size ∧ s.get! (p + 1 + i) = t.get! (q + 1 + i))
    (hw : ∀ i, i + 1 < wid s false p → q + 1 + i < t.size ∧ t.get! (q + 1 + i) = s.get! (p + 1 + i)) :
    nextZ t (q : Int) false = nextZ s (p : Int) false := by
  have e : decodeN (t.size - q) (t.get! q).toNat (t.get! (q + 1)).toNat (t.get! (q + 2)).toNat (t.get! (q + 3)).toNat = decodeN (s.size - p) (s.get! p).toNat (s.get! (p + 1)).toNat (s.get! (p + 2)).toNat (s.get! (p + 3)).toNat := by
    rw [h0]
    rw [wid_char s p hp] at hw
    refine dec_local _ _ _ _ _ _ _ _ _ (get!_lt256 s p) ?_ ?_ ?_ ?_ ?_ ?_
    · rintro ⟨x1, x2⟩
      obtain ⟨a, b⟩ := hc 0 (by decide) (fun j hj => by obtain rfl : j = 0 := (by omega); exact ⟨by omega, x2⟩)
      exact ⟨by omega, congrArg UInt8.toNat b⟩
    · rintro ⟨⟨x1, x2⟩, x3, x4⟩
      obtain ⟨a, b⟩ := hc 1 (by decide) (fun j hj => by
        rcases (by omega : j = 0 ∨ j = 1) with rfl | rfl
        · exact ⟨by omega, x2⟩
        · exact ⟨by omega, x4⟩)
      exact ⟨by omega, congrArg UInt8.toNat b⟩
    · rintro ⟨⟨x1, x2⟩, ⟨x3, x4⟩, x5, x6⟩
      obtain ⟨a, b⟩ := hc 2 (by decide) (fun j hj => by
        rcases (by omega : j = 0 ∨ j = 1 ∨ j = 2) with rfl | rfl | rfl
        · exact ⟨by omega, x2⟩
        · exact ⟨by omega, x4⟩
        · exact ⟨by omega, x6⟩)
      exact ⟨by omega, congrArg UInt8.toNat b⟩
    · intro h
      obtain ⟨a, b⟩ := hw 0 (by omega)
      exact ⟨by omega, congrArg UInt8.toNat b⟩
    · intro h
      obtain ⟨a, b⟩ := hw 1 (by omega)
      exact ⟨by omega, congrArg UInt8.toNat b⟩
    · intro h
      obtain ⟨a, b⟩ := hw 2 (by omega)
      exact ⟨by omega, congrArg UInt8.toNat b⟩
  have z : ∀ (u : ByteArray) (j : Nat), j < u.size → nextZ u (j : Int) false = chS u j := fun u j h => by
    unfold nextZ; rw [if_neg (by omega)]; rfl
  rw [z t q hq, z s p hp]
  unfold chS chN
  rw [e, h0]
end Go.Proofs.YtdfacbcenogplaaDoor

namespace Go.Proofs.YtdfacbcenogplaaDoor
open Go.Lib

/-- s stands in t from o on; behind it comes c (0: nothing). -/
structure Emb (s t : ByteArray) (o c : Nat) : Prop where
  get : ∀ i, i < s.size → t.get! (o + i) = s.get! i
  fin : (c = 0 ∧ o + s.size = t.size) ∨ ((c = 124 ∨ c = 41) ∧ o + s.size < t.size ∧ (t.get! (o + s.size)).toNat = c)
theorem Emb.sz {s t : ByteArray} {o c : Nat} (h : Emb s t o c) : o + s.size ≤ t.size := by rcases h.fin with a | a <;> omega
theorem Emb.st1 {s t : ByteArray} {o c : Nat} (h : Emb s t o c) {i : Nat} (hi : i < s.size) (x : Nat) : st1 t (o + i) x = st1 s i x := by
  have := h.sz
  unfold Go.Proofs.YtdfacbcenogplaaDoor.st1
  rw [h.get i hi]
  simp [hi, show o + i < t.size by omega]
theorem Emb.fin1 {s t : ByteArray} {o c : Nat} (h : Emb s t o c) (x : Nat) (hx : x ≠ 0) : Go.Proofs.YtdfacbcenogplaaDoor.st1 t (o + s.size) x = decide (x = c) := by
  unfold Go.Proofs.YtdfacbcenogplaaDoor.st1
  rcases h.fin with ⟨rfl, a⟩ | ⟨a1, a2, a3⟩
  · simp [hx, a]
  · rw [a3]
    simp only [a2, true_and, decide_eq_decide]
    omega
/-- A byte that may not be the one behind. -/
theorem Emb.st1' {s t : ByteArray} {o c : Nat} (h : Emb s t o c) {i : Nat} (hi : i ≤ s.size) (x : Nat) (hx : x ≠ 0 ∧ x ≠ 124 ∧ x ≠ 41) : Go.Proofs.YtdfacbcenogplaaDoor.st1 t (o + i) x = Go.Proofs.YtdfacbcenogplaaDoor.st1 s i x := by
  rcases Nat.lt_or_ge i s.size with h1 | h1
  · exact h.st1 h1 x
  · obtain rfl : i = s.size := by omega
    rw [h.fin1 x hx.1, st1_end, decide_eq_false_iff_not]
    rcases h.fin with a | a <;> omega
theorem Emb.st2' {s t : ByteArray} {o c : Nat} (h : Emb s t o c) {i : Nat} (hi : i ≤ s.size) (x y : Nat) (hx : x ≠ 0 ∧ x ≠ 124 ∧ x ≠ 41) (hy : y ≠ 0 ∧ y ≠ 124 ∧ y ≠ 41) : st2 t (o + i) x y = st2 s i x y := by
  have hz := h.sz
  have a := h.st1' hi x hx
  unfold Go.Proofs.YtdfacbcenogplaaDoor.st1 at a
  rw [decide_eq_decide] at a
  unfold st2
  rw [decide_eq_decide]
  rcases Nat.lt_or_ge i s.size with h1 | h1
  · have b := h.st1' (i := i + 1) h1 y hy
    unfold Go.Proofs.YtdfacbcenogplaaDoor.st1 at b
    rw [decide_eq_decide, show o + (i + 1) = o + i + 1 by omega] at b
    constructor
    · rintro ⟨k1, k2, k3⟩
      exact ⟨(b.1 ⟨k1, k3⟩).1, (a.1 ⟨by omega, k2⟩).2, (b.1 ⟨k1, k3⟩).2⟩
    · rintro ⟨k1, k2, k3⟩
      exact ⟨(b.2 ⟨k1, k3⟩).1, (a.2 ⟨by omega, k2⟩).2, (b.2 ⟨k1, k3⟩).2⟩
  · constructor
    · rintro ⟨k1, k2, k3⟩
      have := (a.1 ⟨by omega, k2⟩).1
      omega
    · rintro ⟨k1, k2, k3⟩
      omega
theorem Emb.dig {s t : ByteArray} {o c : Nat} (h : Emb s t o c) {i : Nat} (hi : i ≤ s.size) : rxDg t (o + i) = rxDg s i := by
  have hz := h.sz
  unfold rxDg
  rw [decide_eq_decide]
  rcases Nat.lt_or_ge i s.size with h1 | h1
  · rw [h.get i h1]
    constructor <;> (intro k; omega)
  · obtain rfl : i = s.size := by omega
    rcases h.fin with ⟨_, a⟩ | ⟨a1, a2, a3⟩
    · constructor <;> (intro k; omega)
    · rw [a3]
      constructor <;> (intro k; omega)
theorem Emb.num {s t : ByteArray} {o c : Nat} (h : Emb s t o c) : ∀ (f i n : Nat), s.size - i ≤ f → i ≤ s.size → numR t (o + i) n = ((numR s i n).1, o + (numR s i n).2)
  | 0, i, n, hf, hi => by
    have e : rxDg s i = false := by
      unfold rxDg
      rw [decide_eq_false_iff_not]
      omega
    rw [numR_stop s i n e, numR_stop t (o + i) n (by rw [h.dig hi]; exact e)]
  | f + 1, i, n, hf, hi => by
    cases e : rxDg s i with
    | false => rw [numR_stop s i n e, numR_stop t (o + i) n (by rw [h.dig hi]; exact e)]
    | true =>
      have hlt : i < s.size := (of_decide_eq_true e).1
      rw [numR_step s i n e, numR_step t (o + i) n (by rw [h.dig hi]; exact e), h.get i hlt, show o + i + 1 = o + (i + 1) by omega, Emb.num h f (i + 1) _ (by omega) hlt]
theorem Emb.num0 {s t : ByteArray} {o c : Nat} (h : Emb s t o c) {i : Nat} (hi : i ≤ s.size) : (numR t (o + i) 0).1 = (numR s i 0).1 ∧ (numR t (o + i) 0).2 = o + (numR s i 0).2 := by
  rw [h.num _ i 0 (Nat.le_refl _) hi]
  exact ⟨rfl, rfl⟩
theorem Emb.bnd {s t : ByteArray} {o c : Nat} (h : Emb s t o c) {i : Nat} (hi : i ≤ s.size) : bndF t (o + i) = (bndF s i).map fun q => (q.1, q.2.1, o + q.2.2) := by
  unfold bndF
  rw [h.st1' hi 123 (by omega)]
  cases e0 : Go.Proofs.YtdfacbcenogplaaDoor.st1 s i 123 with
  | false => rfl
  | true =>
    have h1 := st1_lt e0
    obtain ⟨n1, n2⟩ := h.num0 (i := i + 1) h1
    have a := numR_in s (i + 1) h1
    rw [show o + i + 1 = o + (i + 1) by omega, n1, n2]
    generalize numR s (i + 1) 0 = r at a
    rw [h.st1' a.2.1 44 (by omega), h.st1' a.2.1 125 (by omega)]
    simp only [if_true, show (o + r.2 = o + (i + 1)) = (r.2 = i + 1) from propext (by omega)]
    by_cases e1 : r.2 = i + 1
    · rw [if_pos e1, if_pos e1]
      rfl
    rw [if_neg e1, if_neg e1]
    cases e2 : Go.Proofs.YtdfacbcenogplaaDoor.st1 s r.2 44 with
    | true =>
      have h2 := st1_lt e2
      obtain ⟨m1, m2⟩ := h.num0 (i := r.2 + 1) h2
      have b := numR_in s (r.2 + 1) h2
      rw [show o + r.2 + 1 = o + (r.2 + 1) by omega, m1, m2]
      generalize numR s (r.2 + 1) 0 = q at b
      rw [h.st1' b.2.1 125 (by omega)]
      simp only [if_true, show (o + q.2 = o + (r.2 + 1)) = (q.2 = r.2 + 1) from propext (by omega)]
      cases Go.Proofs.YtdfacbcenogplaaDoor.st1 s q.2 125
      · rfl
      · simp [show o + q.2 + 1 = o + (q.2 + 1) by omega]
    | false =>
      simp only [Bool.false_eq_true, if_false]
      cases Go.Proofs.YtdfacbcenogplaaDoor.st1 s r.2 125
      · rfl
      · simp [show o + r.2 + 1 = o + (r.2 + 1) by omega]
def Rs.up {α : Type} (o : Nat) : Rs α → Rs α
  | .ok a k => .ok a (o + k)
  | .bad k e => .bad (o + k) e
theorem Emb.rep {s t : ByteArray} {o c : Nat} (h : Emb s t o c) {i : Nat} (hi : i ≤ s.size) : repF t (o + i) = (repF s i).map (Rs.up o) := by
  unfold repF
  rw [h.st1' hi 42 (by omega), h.st1' hi 43 (by omega), h.st1' hi 63 (by omega)]
  cases Go.Proofs.YtdfacbcenogplaaDoor.st1 s i 42
  case true => simp [Rs.up, Nat.add_assoc]
  cases Go.Proofs.YtdfacbcenogplaaDoor.st1 s i 43
  case true => simp [Rs.up, Nat.add_assoc]
  cases Go.Proofs.YtdfacbcenogplaaDoor.st1 s i 63
  case true => simp [Rs.up, Nat.add_assoc]
  simp only [Bool.false_eq_true, if_false]
  unfold ivlF
  rw [h.bnd hi]
  cases bndF s i with
  | none => rfl
  | some q =>
    obtain ⟨lo, hi', k⟩ := q
    simp only [Option.map_some]
    split
    · rfl
    · split <;> rfl
theorem Emb.next {s t : ByteArray} {o c : Nat} (h : Emb s t o c) (b : Bool) {i : Nat} (hi : i < s.size) : nextZ t ((o + i : Nat) : Int) b = nextZ s (i : Int) b := by
  have hz := h.sz
  cases b with
  | true =>
    unfold nextZ
    rw [if_neg (show ¬ (((o + i : Nat) : Int) < 0 ∨ (t.size : Int) ≤ ((o + i : Nat) : Int)) by omega), if_neg (show ¬ ((i : Int) < 0 ∨ (s.size : Int) ≤ (i : Int)) by omega), Int.toNat_natCast, Int.toNat_natCast, h.get i hi]
    rfl
  | false =>
    refine next_local s t i (o + i) hi (by omega) (h.get i hi) (fun k hk hj => ?_) (fun k hk => ?_)
    · have key : ∀ k, (∀ j, j ≤ k → o + i + 1 + j < t.size ∧ (t.get! (o + i + 1 + j)).toNat / 64 = 2) → i + 1 + k < s.size := by
        intro k
        induction k with
        | zero =>
          intro hj
          rcases Nat.lt_or_ge (i + 1) s.size with h1 | h1
          · exact h1
          · have h2 := hj 0 (Nat.le_refl _)
            rcases h.fin with ⟨_, a⟩ | ⟨a1, a2, a3⟩
            · omega
            · rw [show o + i + 1 + 0 = o + s.size by omega, a3] at h2
              omega
        | succ k ih =>
          intro hj
          have h0 := ih (fun j hj' => hj j (by omega))
          rcases Nat.lt_or_ge (i + 1 + (k + 1)) s.size with h1 | h1
          · exact h1
          · have h2 := hj (k + 1) (Nat.le_refl _)
            rcases h.fin with ⟨_, a⟩ | ⟨a1, a2, a3⟩
            · omega
            · rw [show o + i + 1 + (k + 1) = o + s.size by omega, a3] at h2
              omega
      have h1 := key k hj
      refine ⟨h1, ?_⟩
      rw [← h.get _ h1]
      congr 1
      omega
    · have h1 := wid_in s false i hi
      refine ⟨by omega, ?_⟩
      rw [← h.get _ (by omega)]
      congr 1
      omega
/-- What is right there is right here, or, if 'big' may be, too big. -/
def RxUp {α : Type} (big : Prop) (o : Nat) (r r' : Rs α) : Prop := ∀ a k, r = .ok a k → r' = .ok a (o + k) ∨ (big ∧ ∃ p, r' = .bad p 91)
theorem index_app : ∀ (l m sub : List UInt8), 0 ≤ index l sub → index (l ++ m) sub = index l sub
  | [], m, sub, h => by
    unfold index at h
    split at h
    · rename_i he
      have : sub = [] := by simpa using he
      subst this
      cases m <;> rfl
    · omega
  | b :: l, m, sub, h => by
    rw [List.cons_append]
    unfold index at h ⊢
    by_cases hp : sub.isPrefixOf (b :: l) = true
    · have hp2 : sub.isPrefixOf (b :: (l ++ m)) = true := by
        rw [List.isPrefixOf_iff_prefix] at hp ⊢
        exact hp.trans (by rw [← List.cons_append]; exact List.prefix_append _ _)
      rw [if_pos hp, if_pos hp2]
    · rw [if_neg hp] at h ⊢
      have hl : 0 ≤ index l sub := by
        split at h
        · omega
        · rename_i hx
          have := index_ge l sub
          have : index l sub ≠ -1 := by simpa using hx
          omega
      have hp2 : ¬ sub.isPrefixOf (b :: (l ++ m)) = true := by
        intro hq
        apply hp
        rw [List.isPrefixOf_iff_prefix] at hq ⊢
        rcases index_spec l sub with ⟨e, _⟩ | ⟨p, e, hp', ho, _⟩
        · omega
        · have hlen : sub.length ≤ (b :: l).length := by
            unfold occAt at ho
            have := (List.isPrefixOf_iff_prefix.1 ho).length_le
            simp only [List.length_drop, List.length_cons] at this ⊢
            omega
          rw [← List.cons_append] at hq
          exact List.prefix_of_prefix_length_le hq (List.prefix_append _ _) hlen
      rw [if_neg hp2, index_app l m sub hl]
theorem Emb.drop {s t : ByteArray} {o c : Nat} (h : Emb s t o c) {i : Nat} (hi : i ≤ s.size) : ∃ m, t.data.toList.drop (o + i) = s.data.toList.drop i ++ m := by
  have hz := h.sz
  refine ⟨t.data.toList.drop (o + s.size), ?_⟩
  refine List.ext_getElem? fun j => ?_
  rw [List.getElem?_drop, List.getElem?_append]
  simp only [List.length_drop, ← Lib.size_eq]
  split
  · rename_i hj
    rw [List.getElem?_drop, rx_get s (i + j) (by omega), rx_get t (o + i + j) (by omega), Nat.add_assoc, h.get _ (by omega)]
  · rename_i hj
    rw [List.getElem?_drop]
    congr 1
    omega
theorem Emb.cls {s t : ByteArray} {o c : Nat} (h : Emb s t o c) {a a' i : Nat} (hi : i + 2 ≤ s.size) : RxUp False o (clsF s a i) (clsF t a' (o + i)) := by
  intro l k hk
  left
  unfold clsF at hk ⊢
  obtain ⟨m, hm⟩ := h.drop (i := i + 2) hi
  rw [show o + i + 2 = o + (i + 2) by omega, hm]
  generalize s.data.toList.drop (i + 2) = d at hk
  have hc : cut (d ++ m) [58, 93] = ((cut d [58, 93]).1, (cut d [58, 93]).2.1 ++ m, true) ∧ (cut d [58, 93]).2.2 = true := by
    unfold cut at hk ⊢
    by_cases hx : 0 ≤ index d [58, 93]
    · rw [index_app d m _ hx, if_pos hx, if_pos hx]
      rcases index_spec d [58, 93] with ⟨e, _⟩ | ⟨p, e, hp', ho, _⟩
      · omega
      · have hlen : p + 2 ≤ d.length := by
          unfold occAt at ho
          have := (List.isPrefixOf_iff_prefix.1 ho).length_le
          simp only [List.length_drop, List.length_cons, List.length_nil] at this
          omega
        rw [e, Int.toNat_natCast]
        simp only [List.length_cons, List.length_nil]
        rw [List.take_append_of_le_length (by omega), List.drop_append_of_le_length (by omega)]
        exact ⟨rfl, trivial⟩
    · rw [if_neg hx] at hk
      cases hk
  rw [hc.1]
  rw [hc.2] at hk
  simp only [if_true] at hk ⊢
  cases hcl : clsL (cut d [58, 93]).1 with
  | none => rw [hcl] at hk; cases hk
  | some l' =>
    rw [hcl] at hk
    cases hk
    simp only [Rs.ok.injEq, true_and]
    omega
theorem Emb.mem {s t : ByteArray} {o c : Nat} (h : Emb s t o c) (b : Bool) {a a' i : Nat} (hi : i ≤ s.size) : RxUp False o (memF s b a i) (memF t b a' (o + i)) := by
  intro x k hk
  left
  have hz := h.sz
  unfold memF at hk ⊢
  by_cases h0 : i = s.size
  · rw [if_pos h0] at hk
    cases hk
  rw [if_neg h0] at hk
  have hn := nx_in s b i (by omega)
  rw [if_neg (show ¬ o + i = t.size by omega), h.next b (show i < s.size by omega)]
  by_cases h1 : (nextZ s i b).1 = 92
  · rw [if_pos h1] at hk ⊢
    by_cases h2 : i + (nextZ s i b).2 = s.size
    · rw [if_pos h2] at hk
      cases hk
    · rw [if_neg h2] at hk
      rw [if_neg (show ¬ o + i + (nextZ s i b).2 = t.size by omega), show o + i + (nextZ s i b).2 = o + (i + (nextZ s i b).2) by omega, h.next b (show i + (nextZ s i b).2 < s.size by omega)]
      cases hm : meantF (nextZ s ((i + (nextZ s i b).2 : Nat) : Int) b).1 with
      | none => rw [hm] at hk; cases hk
      | some x' =>
        rw [hm] at hk
        cases hk
        simp only [Rs.ok.injEq, true_and]
        omega
  · rw [if_neg h1] at hk ⊢
    cases hk
    simp only [Rs.ok.injEq, true_and]
    omega
theorem Emb.itm {s t : ByteArray} {o c : Nat} (h : Emb s t o c) (b : Bool) {a a' i : Nat} (hi : i ≤ s.size) : RxUp False o (itmF s b a i) (itmF t b a' (o + i)) := by
  intro x k hk
  left
  unfold itmF at hk ⊢
  rw [h.st2' hi 91 58 (by omega) (by omega)]
  cases h0 : st2 s i 91 58 with
  | true =>
    rw [h0] at hk
    simp only [if_true] at hk ⊢
    rcases h.cls (by have := st2_lt h0; omega) x k hk with e | e
    · exact e
    · exact e.1.elim
  | false =>
    rw [h0] at hk
    simp only [Bool.false_eq_true, if_false] at hk ⊢
    cases hm : memF s b a i with
    | bad k' e => rw [hm] at hk; cases hk
    | ok lo k1 =>
      rw [hm] at hk
      have hb := mem_in hi hm
      rcases h.mem b (a' := a') hi lo k1 hm with e | e
      · rw [e]
        simp only at hk ⊢
        rw [h.st2' hb.2 45 93 (by omega) (by omega), h.st1' hb.2 45 (by omega)]
        cases h1 : (!st2 s k1 45 93 && Go.Proofs.YtdfacbcenogplaaDoor.st1 s k1 45) with
        | false =>
          rw [h1] at hk
          simp only [Bool.false_eq_true, if_false] at hk ⊢
          cases hk
          rfl
        | true =>
          rw [h1] at hk
          rw [Bool.and_eq_true] at h1
          have h2 := st1_lt h1.2
          simp only [if_true] at hk ⊢
          rw [show o + k1 + 1 = o + (k1 + 1) by omega, h.st2' (i := k1 + 1) h2 91 58 (by omega) (by omega)]
          cases h3 : st2 s (k1 + 1) 91 58 with
          | true => rw [h3] at hk; cases hk
          | false =>
            rw [h3] at hk
            simp only [Bool.false_eq_true, if_false] at hk ⊢
            cases hm2 : memF s b a (k1 + 1) with
            | bad k' e => rw [hm2] at hk; cases hk
            | ok hi2 k2 =>
              rw [hm2] at hk
              rcases h.mem b (a' := a') (i := k1 + 1) h2 hi2 k2 hm2 with e | e
              · rw [e]
                simp only at hk ⊢
                split at hk
                · cases hk
                · rename_i hlt
                  rw [if_neg hlt]
                  cases hk
                  rfl
              · exact e.1.elim
      · exact e.1.elim
theorem Emb.set {s t : ByteArray} {o c : Nat} (h : Emb s t o c) (b : Bool) {a a' : Nat} : ∀ (f f' : Nat) (first : Bool) (i : Nat) (acc : List (Int × Int)), f ≤ f' → i ≤ s.size → RxUp False o (setF s b a f first i acc) (setF t b a' f' first (o + i) acc)
  | 0, _, _, _, _, _, _ => by
    intro x k hk
    rw [setF] at hk
    cases hk
  | f + 1, f', first, i, acc, hf, hi => by
    intro x k hk
    left
    obtain ⟨g, rfl⟩ : ∃ g, f' = g + 1 := ⟨f' - 1, by omega⟩
    rw [setF] at hk ⊢
    rw [h.st1' hi 93 (by omega)]
    cases h0 : (!first && Go.Proofs.YtdfacbcenogplaaDoor.st1 s i 93) with
    | true =>
      rw [h0] at hk
      simp only [if_true] at hk ⊢
      cases hk
      rfl
    | false =>
      rw [h0] at hk
      simp only [Bool.false_eq_true, if_false] at hk ⊢
      cases hm : itmF s b a i with
      | bad k' e => rw [hm] at hk; cases hk
      | ok l k1 =>
        rw [hm] at hk
        have hb := itm_in hi hm
        rcases h.itm b (a' := a') hi l k1 hm with e | e
        · rw [e]
          rcases Emb.set h b f g false k1 (acc ++ l) (by omega) hb.2 x k hk with e | e
          · exact e
          · exact e.1.elim
        · exact e.1.elim
theorem Emb.brk {s t : ByteArray} {o c : Nat} (h : Emb s t o c) (b : Bool) {a a' i : Nat} (hi : i ≤ s.size) : RxUp False o (brkF s b a i) (brkF t b a' (o + i)) := by
  intro x k hk
  left
  have hz := h.sz
  unfold brkF at hk ⊢
  rw [h.st1' hi 94 (by omega)]
  have e : (if Go.Proofs.YtdfacbcenogplaaDoor.st1 s i 94 = true then o + i + 1 else o + i) = o + (if Go.Proofs.YtdfacbcenogplaaDoor.st1 s i 94 = true then i + 1 else i) := by
    split <;> omega
  have hi2 : (if Go.Proofs.YtdfacbcenogplaaDoor.st1 s i 94 = true then i + 1 else i) ≤ s.size := by
    split
    · rename_i h1
      exact st1_lt h1
    · exact hi
  rw [e]
  cases hm : setF s b a (s.size + 1) true (if Go.Proofs.YtdfacbcenogplaaDoor.st1 s i 94 = true then i + 1 else i) [] with
  | bad k' e => rw [hm] at hk; cases hk
  | ok l k1 =>
    rw [hm] at hk
    rcases h.set b (a' := a') (s.size + 1) (t.size + 1) true _ [] (by omega) hi2 l k1 hm with e | e
    · rw [e]
      cases hk
      rfl
    · exact e.1.elim
theorem Emb.mrk {s t : ByteArray} {o c : Nat} (h : Emb s t o c) (b : Bool) {a a' i : Nat} (hi : i ≤ s.size) : RxUp False o (mrkF s b a i) (mrkF t b a' (o + i)) := by
  intro x k hk
  left
  have hz := h.sz
  unfold mrkF at hk ⊢
  by_cases h0 : i = s.size
  · rw [if_pos h0] at hk
    cases hk
  rw [if_neg h0] at hk
  rw [if_neg (show ¬ o + i = t.size by omega), h.next b (show i < s.size by omega)]
  generalize nextZ s i b = z at hk
  iterate 10
    rcases ite_or hk with ⟨h1, hk⟩ | ⟨h1, hk⟩
    · rw [if_pos h1]
      cases hk
      rw [Nat.add_assoc]
    rw [if_neg h1]
  cases hm : meantF z.1 with
  | none => rw [hm] at hk; cases hk
  | some x' =>
    rw [hm] at hk
    cases hk
    rw [Nat.add_assoc]
def GrpUp (s : ByteArray) (big : Prop) (o : Nat) (grp grp' : Nat → Nat → Rs Tr) : Prop := ∀ a i, i ≤ s.size → RxUp big o (grp a i) (grp' (o + a) (o + i))
theorem RxUp.weak {α : Type} {big : Prop} {o : Nat} {r r' : Rs α} (h : RxUp False o r r') : RxUp big o r r' := fun a k hk => by
  rcases h a k hk with e | e
  · exact .inl e
  · exact e.1.elim
theorem Emb.node {s t : ByteArray} {o c : Nat} (h : Emb s t o c) (b : Bool) {big : Prop} {grp grp' : Nat → Nat → Rs Tr} (hg : GrpUp s big o grp grp') {i : Nat} (hi : i < s.size) : RxUp big o (nodeF grp s b i) (nodeF grp' t b (o + i)) := by
  have hn := nx_in s b i hi
  unfold nodeF
  rw [h.next b hi, Nat.add_assoc]
  by_cases h1 : (nextZ s i b).1 = 40
  · rw [if_pos h1, if_pos h1]
    exact hg _ _ hn.2
  rw [if_neg h1, if_neg h1]
  by_cases h2 : (nextZ s i b).1 = 91
  · rw [if_pos h2, if_pos h2]
    exact (h.brk b hn.2).weak
  rw [if_neg h2, if_neg h2]
  by_cases h3 : (nextZ s i b).1 = 92
  · rw [if_pos h3, if_pos h3]
    exact (h.mrk b hn.2).weak
  rw [if_neg h3, if_neg h3]
  generalize nextZ s i b = z
  intro x k hk
  left
  iterate 3
    rcases ite_or hk with ⟨h1, hk⟩ | ⟨h1, hk⟩
    · rw [if_pos h1]
      cases hk
      rfl
    rw [if_neg h1]
  cases hk
  rfl
theorem Emb.rowE {s t : ByteArray} {o c : Nat} (h : Emb s t o c) {i : Nat} (hi : i ≤ s.size) : Go.Proofs.YtdfacbcenogplaaDoor.rowE t (o + i) ↔ Go.Proofs.YtdfacbcenogplaaDoor.rowE s i := by
  have hz := h.sz
  unfold Go.Proofs.YtdfacbcenogplaaDoor.rowE
  rcases Nat.lt_or_ge i s.size with h1 | h1
  · rw [h.st1 h1, h.st1 h1]
    simp only [show (o + i = t.size) = (i = s.size) from propext (by omega)]
  · obtain rfl : i = s.size := by omega
    rw [h.fin1 124 (by omega), h.fin1 41 (by omega)]
    simp only [true_or, iff_true, decide_eq_true_eq]
    rcases h.fin with a | a <;> omega
theorem Emb.row {s t : ByteArray} {o c : Nat} (h : Emb s t o c) (b : Bool) {big : Prop} {grp grp' : Nat → Nat → Rs Tr} (hgi : GrpIn s grp) (hg : GrpUp s big o grp grp') : ∀ (f f' i : Nat) (kids : List Tr), f ≤ f' → i ≤ s.size → RxUp big o (rowF grp s b f i kids) (rowF grp' t b f' (o + i) kids)
  | 0, _, _, _, _, _ => by
    intro x k hk
    rw [rowF] at hk
    cases hk
  | f + 1, f', i, kids, hf, hi => by
    obtain ⟨g, rfl⟩ : ∃ g, f' = g + 1 := ⟨f' - 1, by omega⟩
    intro x k hk
    by_cases he : Go.Proofs.YtdfacbcenogplaaDoor.rowE s i
    · rw [row_end he] at hk
      rw [row_end ((h.rowE hi).2 he)]
      cases hk
      exact .inl rfl
    have he' : ¬ Go.Proofs.YtdfacbcenogplaaDoor.rowE t (o + i) := fun hx => he ((h.rowE hi).1 hx)
    have hlt : i < s.size := by
      unfold Go.Proofs.YtdfacbcenogplaaDoor.rowE at he
      omega
    have nd : ∀ kids, (kids = [] ∨ repF s i = none) → rowF grp s b (f + 1) i kids = .ok x k → rowF grp' t b (g + 1) (o + i) kids = .ok x (o + k) ∨ (big ∧ ∃ p, rowF grp' t b (g + 1) (o + i) kids = .bad p 91) := fun kids hr hk => by
      have hr' : kids = [] ∨ repF t (o + i) = none := by
        rcases hr with hr | hr
        · exact .inl hr
        · rw [h.rep hi, hr]
          exact .inr rfl
      cases hn : nodeF grp s b i with
      | bad k' e => rw [row_nodebad he hr hn] at hk; cases hk
      | ok t' k' =>
        rw [row_node he hr hn] at hk
        have h1 := node_in hgi hlt hn
        rcases h.node b hg hlt t' k' hn with e | ⟨e0, p, e⟩
        · rw [row_node he' hr' e]
          exact Emb.row h b hgi hg f g k' _ (by omega) h1.2 x k hk
        · rw [row_nodebad he' hr' e]
          exact .inr ⟨e0, p, rfl⟩
    rcases List.eq_nil_or_concat kids with rfl | ⟨ks, u, rfl⟩
    · exact nd _ (.inl rfl) hk
    rw [List.concat_eq_append] at hk ⊢
    cases hr : repF s i with
    | none => exact nd _ (.inr hr) hk
    | some q =>
      cases q with
      | bad k' e => rw [row_repbad he hr] at hk; cases hk
      | ok r k' =>
        have hr' : repF t (o + i) = some (.ok r (o + k')) := by
          rw [h.rep hi, hr]
          rfl
        rw [row_rep he hr] at hk
        rw [row_rep he' hr']
        have h1 := rep_in hr
        exact Emb.row h b hgi hg f g k' _ (by omega) h1.2 x k hk
/-- A choice that ends ahead of a bracket or of the end. -/
theorem Emb.ch {s t : ByteArray} {o c : Nat} (h : Emb s t o c) (b : Bool) {big : Prop} {grp grp' : Nat → Nat → Rs Tr} (hgi : GrpIn s grp) (hg : GrpUp s big o grp grp') : ∀ (f f' i : Nat) (kids : List Tr), f ≤ f' → i ≤ s.size →
    ∀ x k, chF grp s b f i kids = .ok x k → (c = 124 → k < s.size) → chF grp' t b f' (o + i) kids = .ok x (o + k) ∨ (big ∧ ∃ p, chF grp' t b f' (o + i) kids = .bad p 91)
  | 0, _, _, _, _, _ => by
    intro x k hk
    rw [chF] at hk
    cases hk
  | f + 1, f', i, kids, hf, hi => by
    obtain ⟨g, rfl⟩ : ∃ g, f' = g + 1 := ⟨f' - 1, by omega⟩
    intro x k hk hc
    have hz := h.sz
    rw [chF] at hk ⊢
    cases hr : rowF grp s b (s.size + 1) i [] with
    | bad k' e => rw [hr] at hk; cases hk
    | ok t' k' =>
      rw [hr] at hk
      have h1 := row_in hgi hi hr
      rcases h.row b hgi hg (s.size + 1) (t.size + 1) i [] (by omega) hi t' k' hr with e | ⟨e0, p, e⟩
      · rw [e]
        simp only at hk ⊢
        cases h2 : Go.Proofs.YtdfacbcenogplaaDoor.st1 s k' 124 with
        | true =>
          rw [h2] at hk
          have h3 := st1_lt h2
          rw [h.st1 h3, h2]
          simp only [if_true] at hk ⊢
          rw [Nat.add_assoc]
          exact Emb.ch h b hgi hg f g (k' + 1) _ (by omega) h3 x k hk hc
        | false =>
          rw [h2] at hk
          simp only [Bool.false_eq_true, if_false] at hk
          cases hk
          have h4 : Go.Proofs.YtdfacbcenogplaaDoor.st1 t (o + k) 124 = false := by
            rcases Nat.lt_or_ge k s.size with h5 | h5
            · rw [h.st1 h5, h2]
            · obtain rfl : k = s.size := by omega
              rw [h.fin1 124 (by omega), decide_eq_false_iff_not]
              intro he
              have := hc he.symm
              omega
          rw [h4]
          exact .inl rfl
      · rw [e]
        exact .inr ⟨e0, p, rfl⟩
theorem Emb.grp {s t : ByteArray} {o c : Nat} (h : Emb s t o c) (b : Bool) {big : Prop} : ∀ d d', (big ∨ d ≤ d') → GrpUp s big o (grpF s b d) (grpF t b d')
  | 0, _, _ => by
    intro a i _ x k hk
    rw [grpF] at hk
    cases hk
  | d + 1, 0, hd => by
    intro a i hi x k hk
    rcases hd with hd | hd
    · rw [grpF]
      exact .inr ⟨hd, _, rfl⟩
    · omega
  | d + 1, d' + 1, hd => by
    intro a i hi x k hk
    have hg := Emb.grp h b d d' (hd.imp id (fun x => by omega))
    have hz := h.sz
    rw [grpF] at hk ⊢
    cases hr : chF (grpF s b d) s b (s.size + 1) i [] with
    | bad k' e => rw [hr] at hk; cases hk
    | ok t' k' =>
      rw [hr] at hk
      simp only at hk
      cases h2 : Go.Proofs.YtdfacbcenogplaaDoor.st1 s k' 41 with
      | false => rw [h2] at hk; cases hk
      | true =>
        rw [h2] at hk
        simp only [if_true] at hk
        cases hk
        have h3 := st1_lt h2
        rcases h.ch b (grp_in s b d) hg (s.size + 1) (t.size + 1) i [] (by omega) hi _ _ hr (fun _ => h3) with e | ⟨e0, p, e⟩
        · rw [e]
          simp only
          rw [h.st1 h3, h2]
          exact .inl rfl
        · rw [e]
          exact .inr ⟨e0, p, rfl⟩
end Go.Proofs.YtdfacbcenogplaaDoor

namespace Go.Proofs.YtdfacbcenogplaaDoor
open Go.Lib

theorem tog_two (kind : Int) : ∀ l : List Tr, 2 ≤ l.length → togF kind l = trN kind l
  | [], h => by simp at h
  | [_], h => by simp at h
  | _ :: _ :: _, _ => rfl
/-- Every fault is one of two. -/
def Er {α : Type} (r : Rs α) : Prop := ∀ k e, r = .bad k e → e = 90 ∨ e = 91
theorem er_ok {α : Type} (a : α) (k : Nat) : Er (Rs.ok a k) := fun _ _ h => by cases h
theorem er_90 {α : Type} (k : Nat) : Er (Rs.bad k 90 : Rs α) := fun _ _ h => by cases h; exact .inl rfl
theorem er_91 {α : Type} (k : Nat) : Er (Rs.bad k 91 : Rs α) := fun _ _ h => by cases h; exact .inr rfl
theorem er_rep (s : ByteArray) (i : Nat) (r : Rs (Int × Int)) (h : repF s i = some r) : Er r := by
  unfold repF at h
  iterate 3
    rcases ite_or h with ⟨_, h⟩ | ⟨_, h⟩
    · cases h
      exact er_ok _ _
  unfold ivlF at h
  split at h
  · cases h
  · cases h
    split
    · exact er_91 _
    · split
      · exact er_ok _ _
      · exact er_90 _
theorem er_mem (s : ByteArray) (b : Bool) (a i : Nat) : Er (memF s b a i) := by
  unfold memF
  split
  · exact er_90 _
  split
  · split
    · exact er_90 _
    split
    · exact er_90 _
    · exact er_ok _ _
  · exact er_ok _ _
theorem er_itm (s : ByteArray) (b : Bool) (a i : Nat) : Er (itmF s b a i) := by
  unfold itmF
  split
  · unfold clsF
    split
    · split
      · exact er_90 _
      · exact er_ok _ _
    · exact er_90 _
  split
  · rename_i k e hm
    intro k' e' h
    exact er_mem s b a i k' e' (by rw [hm]; cases h; rfl)
  rename_i lo k hm
  split
  · split
    · exact er_90 _
    split
    · rename_i k e hm
      intro k' e' h
      exact er_mem s b a _ k' e' (by rw [hm]; cases h; rfl)
    · split
      · exact er_90 _
      · exact er_ok _ _
  · exact er_ok _ _
theorem er_set (s : ByteArray) (b : Bool) (a : Nat) : ∀ f first i acc, Er (setF s b a f first i acc)
  | 0, _, _, _ => by unfold setF; exact er_90 _
  | f + 1, first, i, acc => by
    unfold setF
    split
    · exact er_ok _ _
    split
    · rename_i k e hm
      intro k' e' h
      exact er_itm s b a _ k' e' (by rw [hm]; cases h; rfl)
    · exact er_set s b a f _ _ _
theorem er_mrk (s : ByteArray) (b : Bool) (a i : Nat) : Er (mrkF s b a i) := by
  intro k e h
  unfold mrkF at h
  rcases ite_or h with ⟨_, h⟩ | ⟨_, h⟩
  · cases h
    exact .inl rfl
  iterate 10
    rcases ite_or h with ⟨_, h⟩ | ⟨_, h⟩
    · cases h
  split at h
  · cases h
    exact .inl rfl
  · cases h
theorem er_node {grp : Nat → Nat → Rs Tr} (hg : ∀ a i, Er (grp a i)) (s : ByteArray) (b : Bool) (i : Nat) : Er (nodeF grp s b i) := by
  unfold nodeF
  split
  · exact hg _ _
  split
  · unfold brkF
    split
    · rename_i k e hm
      intro k' e' h
      exact er_set s b _ _ _ _ _ k' e' (by rw [hm]; cases h; rfl)
    · exact er_ok _ _
  split
  · exact er_mrk _ _ _ _
  repeat' split
  all_goals exact er_ok _ _
theorem er_row {grp : Nat → Nat → Rs Tr} (hg : ∀ a i, Er (grp a i)) (s : ByteArray) (b : Bool) : ∀ f i kids, Er (rowF grp s b f i kids)
  | 0, _, _ => by unfold rowF; exact er_90 _
  | f + 1, i, kids => by
    unfold rowF
    split
    · exact er_ok _ _
    split
    · rename_i k e _ hr
      intro k' e' h
      exact er_rep s i _ hr k' e' (by cases h; rfl)
    · exact er_row hg s b f _ _
    · split
      · rename_i k e hn
        intro k' e' h
        exact er_node hg s b i k' e' (by rw [hn]; cases h; rfl)
      · exact er_row hg s b f _ _
theorem er_ch {grp : Nat → Nat → Rs Tr} (hg : ∀ a i, Er (grp a i)) (s : ByteArray) (b : Bool) : ∀ f i kids, Er (chF grp s b f i kids)
  | 0, _, _ => by unfold chF; exact er_90 _
  | f + 1, i, kids => by
    unfold chF
    split
    · rename_i k e hn
      intro k' e' h
      exact er_row hg s b _ i [] k' e' (by rw [hn]; cases h; rfl)
    · split
      · exact er_ch hg s b f _ _
      · exact er_ok _ _
theorem er_grp (s : ByteArray) (b : Bool) : ∀ d a i, Er (grpF s b d a i)
  | 0, _, _ => by unfold grpF; exact er_91 _
  | d + 1, a, i => by
    unfold grpF
    split
    · rename_i k e hn
      intro k' e' h
      exact er_ch (er_grp s b d) s b _ i [] k' e' (by rw [hn]; cases h; rfl)
    · split
      · exact er_ok _ _
      · exact er_90 _
theorem parse_open {s : ByteArray} {x : Tr} {p : Nat} (h : rxParse s false = (x, p, 0)) : chD s false 40 0 = .ok x s.size ∧ x.wt ≤ 200 ∧ s.size ≤ 1024 ∧ p = 0 := by
  unfold rxParse at h
  split at h
  · simp at h
  rename_i h0
  split at h
  · rename_i k e hc
    simp only [Prod.mk.injEq] at h
    have := er_ch (er_grp s false 40) s false _ _ _ k e hc
    omega
  · rename_i t k hc
    split at h
    · rename_i hk
      split at h
      · simp at h
      · rename_i hw
        simp only [Prod.mk.injEq, and_true] at h
        obtain ⟨rfl, rfl⟩ := h
        subst hk
        exact ⟨hc, by omega, by omega, rfl⟩
    · simp at h
theorem parse_shut {s : ByteArray} {x : Tr} (h : chD s false 40 0 = .ok x s.size) (hz : s.size ≤ 1024) : rxParse s false = if 200 < x.wt then (trZ, 0, 91) else (x, 0, 0) := by
  unfold rxParse
  rw [if_neg (by omega), h]
  simp only [if_true]
theorem emb_of {s t : ByteArray} {l m : List UInt8} {c : Nat} (h : t.data.toList = l ++ (s.data.toList ++ m)) (hc : (c = 0 ∧ m = []) ∨ ((c = 124 ∨ c = 41) ∧ ∃ x r, m = x :: r ∧ x.toNat = c)) : Emb s t l.length c := by
  have hz : t.size = l.length + (s.size + m.length) := by
    rw [Lib.size_eq, h, List.length_append, List.length_append, ← Lib.size_eq]
  have ht : ∀ j, j < s.size + m.length → (s.data.toList ++ m)[j]? = some (t.get! (l.length + j)) := fun j hj => by
    have := rx_get t (l.length + j) (by omega)
    rw [h, List.getElem?_append_right (by omega), show l.length + j - l.length = j by omega] at this
    exact this
  refine ⟨fun i hi => ?_, ?_⟩
  · have h1 := ht i (by omega)
    rw [List.getElem?_append_left (by rw [← Lib.size_eq]; exact hi), rx_get s i hi] at h1
    exact (Option.some.inj h1).symm
  · rcases hc with ⟨rfl, rfl⟩ | ⟨hc, x, r, rfl, hx⟩
    · left
      simp at hz
      exact ⟨rfl, by omega⟩
    · right
      simp only [List.length_cons] at hz ht
      refine ⟨hc, by omega, ?_⟩
      have h1 := ht s.size (by omega)
      rw [List.getElem?_append_right (by rw [← Lib.size_eq]; exact Nat.le_refl _), ← Lib.size_eq, Nat.sub_self] at h1
      simp at h1
      rw [← h1, hx]
end Go.Proofs.YtdfacbcenogplaaDoor

namespace Go.Proofs.YtdfacbcenogplaaDoor
open Go.RowKit Go.Lib

abbrev zero7 : Array Value := #[.int .i64 0, .int .i64 0, .bool false, .slice none 0 0, .int .i64 0, .int .i64 0, .slice none 0 0]
theorem Blk.seven {W : World} {g : Nat} {a b c d e f h : Value} {t : TypeId} (k : Blk W g #[a, b, c, d, e, f, h] t) : (W.cell? ⟨g, 0, none⟩ = some a ∧ W.cell? ⟨g, 1, none⟩ = some b ∧ W.cell? ⟨g, 2, none⟩ = some c ∧ W.cell? ⟨g, 3, none⟩ = some d ∧ W.cell? ⟨g, 4, none⟩ = some e ∧ W.cell? ⟨g, 5, none⟩ = some f ∧ W.cell? ⟨g, 6, none⟩ = some h) ∧
    (W.frozen? ⟨g, 0, none⟩ = false ∧ W.frozen? ⟨g, 1, none⟩ = false ∧ W.frozen? ⟨g, 2, none⟩ = false ∧ W.frozen? ⟨g, 3, none⟩ = false ∧ W.frozen? ⟨g, 4, none⟩ = false ∧ W.frozen? ⟨g, 5, none⟩ = false ∧ W.frozen? ⟨g, 6, none⟩ = false) :=
  ⟨⟨k.cell 0, k.cell 1, k.cell 2, k.cell 3, k.cell 4, k.cell 5, k.cell 6⟩, ⟨k.fro 0, k.fro 1, k.fro 2, k.fro 3, k.fro 4, k.fro 5, k.fro 6⟩⟩
/-- Seven stores into a block. -/
abbrev put7 (W : World) (B : Nat) (v0 v1 v2 v3 v4 v5 v6 : Value) : World := ((((((W.setCell ⟨B, 0, none⟩ v0).setCell ⟨B, 1, none⟩ v1).setCell ⟨B, 2, none⟩ v2).setCell ⟨B, 3, none⟩ v3).setCell ⟨B, 4, none⟩ v4).setCell ⟨B, 5, none⟩ v5).setCell ⟨B, 6, none⟩ v6
theorem rx_end7 {W : World} {B : Nat} {t : TypeId} {a0 a1 a2 a3 a4 a5 a6 : Value} (v0 v1 v2 v3 v4 v5 v6 : Value) (F : Blk W B #[a0, a1, a2, a3, a4, a5, a6] t) :
    Blk (put7 W B v0 v1 v2 v3 v4 v5 v6) B #[v0, v1, v2, v3, v4, v5, v6] t ∧ Off2 B B W (put7 W B v0 v1 v2 v3 v4 v5 v6) :=
  have h0 : Blk _ B #[v0, a1, a2, a3, a4, a5, a6] t := F.set (j := 0) (u := v0)
  have h1 : Blk _ B #[v0, v1, a2, a3, a4, a5, a6] t := h0.set (j := 1) (u := v1)
  have h2 : Blk _ B #[v0, v1, v2, a3, a4, a5, a6] t := h1.set (j := 2) (u := v2)
  have h3 : Blk _ B #[v0, v1, v2, v3, a4, a5, a6] t := h2.set (j := 3) (u := v3)
  have h4 : Blk _ B #[v0, v1, v2, v3, v4, a5, a6] t := h3.set (j := 4) (u := v4)
  have h5 : Blk _ B #[v0, v1, v2, v3, v4, v5, a6] t := h4.set (j := 5) (u := v5)
  have h6 : Blk _ B #[v0, v1, v2, v3, v4, v5, v6] t := h5.set (j := 6) (u := v6)
  ⟨h6, ((((((Off2.setCell W B B 0 v0).trans (Off2.setCell _ B B 1 v1)).trans (Off2.setCell _ B B 2 v2)).trans (Off2.setCell _ B B 3 v3)).trans (Off2.setCell _ B B 4 v4)).trans (Off2.setCell _ B B 5 v5)).trans (Off2.setCell _ B B 6 v6)⟩
/-- What a part that answers a node leaves. -/
def gTr (n0 : Nat) (t : Tr) (v : Value) (w' : World) : Prop := ∃ vs, v = .agg vs ∧ TrV w' (fun c => n0 ≤ c) t vs
/-- Seven values as they are. -/
theorem TrV.seven {w : World} {P : Nat → Prop} {t : Tr} {vs : Array Value} (h : TrV w P t vs) : ∃ v0 v1 v2 v3 v4 v5 v6, vs = #[v0, v1, v2, v3, v4, v5, v6] := by
  cases t
  obtain ⟨sv, A, cap, rfl, _⟩ := h.open
  exact ⟨_, _, _, _, _, _, _, rfl⟩
/-- The value of a set is one cell. -/
theorem rx_store_set {w : World} {P : Nat → Prop} {set : List (Int × Int)} {sv : Value} (h : RgIn w P set sv) : ∃ A cap, sv = .slice A set.length cap := by
  obtain ⟨A, cap, e, _⟩ := h
  exact ⟨A, cap, e⟩
set_option maxRecDepth 100000 in
set_option maxHeartbeats 1000000 in
theorem rx_together {W : World} {P : Nat → Prop} {ts : List Tr} {A : Option Addr} (hI : Tr.Ins W P ts A 0) (hl : ts.length ≤ 100000) (kind : Int) (cap : Nat) :
    Calls Tryd.prog 104 #[.int .i64 kind, .slice A ts.length cap] W fun e w' => ∃ vs, e = .returned (.agg vs) ∧ TrV w' P (togF kind ts) vs ∧ Below W.heap.size W w' := by
  have hb0 := (Below.refl W.heap.size W).alloc (Nat.le_refl _) (.cells zero7 58)
  have F0 := Blk.new W zero7 58
  have HI := Lib.hid hI
  match ts, hI, hl with
  | [], _, _ =>
    have hT : TrV (W.alloc (.cells #[.int .i64 1, .int .i64 0, .bool false, .slice none 0 0, .int .i64 0, .int .i64 0, .slice none 0 0] 58)) P (trK 1) #[.int .i64 1, .int .i64 0, .bool false, .slice none 0 0, .int .i64 0, .int .i64 0, .slice none 0 0] := TrV.leaf _ P 1 0 false 0 0
    have HT := Lib.hid hT
    clear hT hb0 HI F0
    go_enter Tryd.func104, Tryd.ntmps104
    go_wp2_with fail
    exact bodyPost_ret (v := .agg #[.int .i64 1, .int .i64 0, .bool false, .slice none 0 0, .int .i64 0, .int .i64 0, .slice none 0 0]) (by simp [results, Tryd.results104, go_sem]) rfl ⟨_, rfl, HT.out, (Below.refl _ _).alloc (Nat.le_refl _) _⟩
  | [t], HI, _ =>
    obtain ⟨g, rfl, hp, ht⟩ := Tr.Ins.at HI 0 t rfl
    simp only [Nat.zero_mul, Nat.zero_add] at ht
    obtain ⟨v, hv⟩ := ht.zero
    have hg : g < W.heap.size := World.block_lt_of_cell? W _ hv
    obtain ⟨k1, code, neg, set, lo, hi, kids⟩ := t
    rw [Tr.In] at ht
    obtain ⟨sv, A2, cap2, t0, t1, t2, t3, t4, t5, t6, hn, hR, hJ⟩ := ht
    have hT : TrV W P (.mk k1 code neg set lo hi kids) #[.int .i64 k1, .int .i64 code, .bool neg, sv, .int .i64 lo, .int .i64 hi, .slice A2 kids.length cap2] := TrV.mk hn hR hJ
    obtain ⟨A3, cap3, rfl⟩ := rx_store_set hR
    have hcel := fun (j : Nat) (u : Value) (h : W.cell? ⟨g, j, none⟩ = some u) => (hb0.cell (p := ⟨g, j, none⟩) hg).trans h
    have c0 := hcel 0 _ t0
    have c1 := hcel 1 _ t1
    have c2 := hcel 2 _ t2
    have c3 := hcel 3 _ t3
    have c4 := hcel 4 _ t4
    have c5 := hcel 5 _ t5
    have c6 := hcel 6 _ t6
    have hT2 := fun (u : Array Value) => hT.kept (w' := W.alloc (.cells u 58)) (P' := P) (fun q hq hp => ⟨hp, Below.heap_alloc W _ q hq⟩)
    have HT := Lib.hid hT2
    have hne : g ≠ W.heap.size := by omega
    obtain ⟨r0, r1⟩ := F0.seven
    clear hT hT2 hcel t0 t1 t2 t3 t4 t5 t6 hn hR hJ hv HI hb0 F0 hp
    go_enter Tryd.func104, Tryd.ntmps104
    go_wp2_with fail
    exact bodyPost_ret (v := .agg #[.int .i64 k1, .int .i64 code, .bool neg, .slice A3 set.length cap3, .int .i64 lo, .int .i64 hi, .slice A2 kids.length cap2]) (by simp [results, Tryd.results104, go_sem]) rfl ⟨_, rfl, HT.out _, (Below.refl _ _).alloc (Nat.le_refl _) _⟩
  | t :: u :: l, HI, hl =>
    have hlen : (t :: u :: l).length = l.length + 2 := by simp
    have hT : TrV (W.alloc (.cells #[.int .i64 kind, .int .i64 0, .bool false, .slice none 0 0, .int .i64 0, .int .i64 0, .slice A (t :: u :: l).length cap] 58)) P (trN kind (t :: u :: l)) #[.int .i64 kind, .int .i64 0, .bool false, .slice none 0 0, .int .i64 0, .int .i64 0, .slice A (t :: u :: l).length cap] :=
      TrV.mk hl (RgIn.nil _ _ none 0) (Tr.Ins.keep (fun q hq hp => ⟨hp, Below.heap_alloc W _ q hq⟩) _ _ _ HI)
    rw [← tog_two kind (t :: u :: l) (by simp)] at hT
    obtain ⟨T, hTe⟩ : ∃ T, togF kind (t :: u :: l) = T := ⟨_, rfl⟩
    obtain ⟨m, hm⟩ : ∃ m, (t :: u :: l).length = m := ⟨_, rfl⟩
    rw [hTe] at hT ⊢
    rw [hm] at hT ⊢
    have m0 : ((m : Int) == 0) = false := by rw [beq_eq_false_iff_ne]; omega
    have m1 : ((m : Int) == 1) = false := by rw [beq_eq_false_iff_ne]; omega
    have HT := Lib.hid hT
    clear hT hTe hm hlen HI hb0 F0 hl hI
    go_enter Tryd.func104, Tryd.ntmps104
    go_wp2_with fail
    exact bodyPost_ret (v := .agg #[.int .i64 kind, .int .i64 0, .bool false, .slice none 0 0, .int .i64 0, .int .i64 0, .slice A m cap]) (by simp [results, Tryd.results104, go_sem]) rfl ⟨_, rfl, HT.out, (Below.refl _ _).alloc (Nat.le_refl _) _⟩
end Go.Proofs.YtdfacbcenogplaaDoor
