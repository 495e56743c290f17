/- Several texts in one (Contracts of layer 5: the pieces of a number as one, as wide as is asked for (padded); The order of floats by a whole number, and what a number is called that has no digits (boundless); Contracts of layer 5: Number, by a verb with a point, and of what has no digits; Contracts of layer 5: a pattern of one part (plain, filled); Contracts of layer 5: a pattern of one part (filled, Conv); Contracts of layer 5: a number as a string, by a pattern of one part (Conv); Contracts of layer 4: what its laws share: whole numbers read, what is left of whole numbers, the fixed examples; Contracts of layer 6: values made, and what they count as; Contracts of layer 6: a value that came in; what a value counts as; values compared; Contracts of layer 6: values as strings; values compared; Contracts of layer 6: values compared as strings; truth; The example of layer 6's laws; the law CellNames; The walk of the law CellTexts; Plain: values in order. No walk here). -/
import Derived.Test.YtbbbdcohkfijoaaGreatDoorQw7
import Derived.Test.YtbbbdcohkfijoaaGreatDoorQw8
import Derived.Test.YtbbbdcohkfijoaaGreatDoorQw9
namespace Go.Proofs.YtbbbdcohkfijoaaGreatDoor
open Go.RowKit Go.Lib

def AscL (l : List UInt8) : Prop := ∀ c ∈ l, c.toNat < 128
theorem upper_asc (s : ByteArray) (w : World) (hs : s.size ≤ 100000) (ha : AscL s.data.toList) : Calls Tryz.prog 133 #[.string s] w fun e w' => e = .returned (.string ⟨(Lib.toUpperA s.data.toList).toArray⟩) ∧ Below w.heap.size w w' :=
  Tryz.strings_ToUpper_ascii s w (by omega) (fun j b hb => ha b (List.mem_of_getElem? hb))
theorem upper_len (l : List UInt8) : (Lib.toUpperA l).length = l.length := by unfold Lib.toUpperA; rw [List.length_map]
theorem ba_three (a b d : ByteArray) : a ++ b ++ d = ⟨(a.data.toList ++ b.data.toList ++ d.data.toList).toArray⟩ := by
  apply ByteArray.ext
  apply Array.toList_inj.1
  rw [ByteArray.data_append, ByteArray.data_append, Array.toList_append, Array.toList_append]
theorem ba_four (a b z d : ByteArray) : a ++ b ++ z ++ d = ⟨(a.data.toList ++ (b.data.toList ++ (z.data.toList ++ d.data.toList))).toArray⟩ := by
  apply ByteArray.ext
  apply Array.toList_inj.1
  rw [ByteArray.data_append, ByteArray.data_append, ByteArray.data_append, Array.toList_append, Array.toList_append, Array.toList_append, List.append_assoc, List.append_assoc]
def PadEnd (w : World) (X : ByteArray) (e : Ending) (w' : World) : Prop := e = .returned (.string X) ∧ Below w.heap.size w w'
set_option maxRecDepth 100000 in
set_option maxHeartbeats 8000000 in
theorem padded_core (m p b a z : Bool) (wd pr : Int) (c : Nat) (no : Bool) (SG BS DS BU DU X : ByteArray) (w : World) (hw0 : -100000 ≤ wd) (hw1 : wd ≤ 100000) (s1 : SG.size ≤ 10) (s2 : BS.size ≤ 10) (s3 : DS.size ≤ 20000) (a2 : AscL BS.data.toList) (a3 : AscL DS.data.toList)
    (hU : if vCap.contains c.toUInt8 = true then BU = ⟨(Lib.toUpperA BS.data.toList).toArray⟩ ∧ DU = ⟨(Lib.toUpperA DS.data.toList).toArray⟩ else BU = BS ∧ DU = DS)
    (hX : X = ⟨(laidL SG.data.toList BU.data.toList DU.data.toList wd m no).toArray⟩) :
    Calls Tryz.prog 77 #[.agg #[.string SG, .string BS, .string DS], .agg #[.bool m, .bool p, .bool b, .bool a, .bool z, .int .i64 wd, .int .i64 pr, .int .u8 (c : Int)], .bool no] w (PadEnd w X) := by
  have cA := fun W => among_any ⟨#[88, 69, 70, 71]⟩ c W
  replace cA : ∀ w : World, Calls Tryz.prog 73 #[.string ⟨#[88, 69, 70, 71]⟩, .int .u8 (c : Int)] w fun e w' => e = .returned (.bool (vCap.contains c.toUInt8)) ∧ w = w' := cA
  have u2 : BU.size = BS.size := by
    split at hU
    · rw [hU.1, ← ba_len, ← ba_len]; exact upper_len _
    · rw [hU.1]
  have u3 : DU.size = DS.size := by
    split at hU
    · rw [hU.2, ← ba_len, ← ba_len]; exact upper_len _
    · rw [hU.2]
  have t2 : BU.size ≤ 10 := by omega
  have t3 : DU.size ≤ 20000 := by omega
  clear u2 u3
  have CB := Lib.hid (fun W => upper_asc BS W (by omega) a2)
  have CD := Lib.hid (fun W => upper_asc DS W (by omega) a3)
  obtain ⟨v, hv⟩ : ∃ v, vCap.contains c.toUInt8 = v := ⟨_, rfl⟩
  rw [hv] at cA hU
  have CA := Lib.hid cA
  have HU := Lib.hid hU
  clear cA hv hU a2 a3
  have fW := (Five.new w #[.string SG, .string BS, .string DS] 111).alloc (.cells #[.bool m, .bool p, .bool b, .bool a, .bool z, .int .i64 wd, .int .i64 pr, .int .u8 (c : Int)] 35)
  have fP := Five.new (w.alloc (.cells #[.string SG, .string BS, .string DS] 111)) #[.bool m, .bool p, .bool b, .bool a, .bool z, .int .i64 wd, .int .i64 pr, .int .u8 (c : Int)] 35
  have hB0 := ((Below.refl w.heap.size w).alloc (Nat.le_refl _) (.cells #[.string SG, .string BS, .string DS] 111)).alloc (by simp) (.cells #[.bool m, .bool p, .bool b, .bool a, .bool z, .int .i64 wd, .int .i64 pr, .int .u8 (c : Int)] 35)
  rw [World.size_alloc] at fP
  have hsz : ((w.alloc (.cells #[.string SG, .string BS, .string DS] 111)).alloc (.cells #[.bool m, .bool p, .bool b, .bool a, .bool z, .int .i64 wd, .int .i64 pr, .int .u8 (c : Int)] 35)).heap.size = w.heap.size + 2 := by rw [World.size_alloc, World.size_alloc]
  unfold PadEnd
  obtain ⟨B, hB⟩ : ∃ B, w.heap.size = B := ⟨_, rfl⟩
  obtain ⟨W2, hW2⟩ : ∃ W2, (w.alloc (.cells #[.string SG, .string BS, .string DS] 111)).alloc (.cells #[.bool m, .bool p, .bool b, .bool a, .bool z, .int .i64 wd, .int .i64 pr, .int .u8 (c : Int)] 35) = W2 := ⟨_, rfl⟩
  rw [hW2] at fP fW hB0 hsz
  rw [hB] at fP fW hB0 hsz ⊢
  have FP := Lib.hid fP
  have FW := Lib.hid fW
  have HB0 := Lib.hid hB0
  have HSZ := Lib.hid hsz
  have HW2 := Lib.hid hW2
  have HB := Lib.hid hB
  have HX := Lib.hid hX
  clear fP fW hB0 hsz hW2 hB hX
  go_enter Tryz.func77, Tryz.ntmps77
  go_upto_if 11 with (go_at_call 73; refine (CA.out _).mono ?_; rintro e w' ⟨rfl, rfl⟩)
  rw [HW2.out, HB.out]
  go_cut [] (fun wx => Five wx B #[.string SG, .string BU, .string DU] 111 ∧ Five wx (B + 1) #[.bool m, .bool p, .bool b, .bool a, .bool z, .int .i64 wd, .int .i64 pr, .int .u8 (c : Int)] 35 ∧ Below B w wx)
  case first =>
    cases v with
    | false =>
      have hU2 := HU.out
      rw [if_neg (by decide)] at hU2
      obtain ⟨rfl, rfl⟩ := hU2
      go_wp2_with fail
      go_meet
      exact ⟨FW.out, FP.out, HB0.out⟩
    | true =>
      have hU2 := HU.out
      rw [if_pos rfl] at hU2
      obtain ⟨hU3, hU4⟩ := hU2
      have CB := CB.out
      have CD := CD.out
      rw [← hU3] at CB
      rw [← hU4] at CD
      have CB := Lib.hid CB
      have CD := Lib.hid CD
      clear hU3 hU4
      have HCW := Lib.hid (fun (W : World) (h : Below W2.heap.size W2 W) => (FW.out.below h).three)
      obtain ⟨q0, q1, q2, r0, r1, r2⟩ := FW.out.three
      go_wp2_with fail
      go_region_with (first
        | (go_at_call 133; (with_reducible refine (CB.out _).mono ?_); rintro e W3 ⟨rfl, h3⟩; have b3 : Below W2.heap.size W2 W3 := ⟨h3.os, h3.tape, h3.output, h3.size, h3.block⟩; obtain ⟨q0, q1, q2, r0, r1, r2⟩ := HCW.out _ b3; clear h3)
        | (go_at_call 133; (with_reducible refine (CD.out _).mono ?_); rintro e W4 ⟨rfl, h4⟩; have b4 : Below W2.heap.size W2 W4 := b3.trans ((⟨h4.os, h4.tape, h4.output, h4.size, h4.block⟩ : Below W3.heap.size W3 W4).mono b3.size); obtain ⟨q0, q1, q2, r0, r1, r2⟩ := HCW.out _ b4; clear h4))
      all_goals
        go_wp2_with fail
        go_meet
        have f4 : Five ((W4.setCell ⟨B, 1, none⟩ (.string BU)).setCell ⟨B, 2, none⟩ (.string DU)) B #[.string SG, .string BU, .string DU] 111 := ((FW.out.below b4).set (j := 1) (u := .string BU)).set (j := 2) (u := .string DU)
        have p4 : Five ((W4.setCell ⟨B, 1, none⟩ (.string BU)).setCell ⟨B, 2, none⟩ (.string DU)) (B + 1) #[.bool m, .bool p, .bool b, .bool a, .bool z, .int .i64 wd, .int .i64 pr, .int .u8 (c : Int)] 35 := ((FP.out.below b4).other (j := 1) (u := .string BU) (by omega)).other (j := 2) (u := .string DU) (by omega)
        have hB4 : Below B w ((W4.setCell ⟨B, 1, none⟩ (.string BU)).setCell ⟨B, 2, none⟩ (.string DU)) := ((HB0.out.trans (b4.mono (by have := HSZ.out; omega))).setCell (p := ⟨B, 1, none⟩) (Nat.le_refl _) _).setCell (p := ⟨B, 2, none⟩) (Nat.le_refl _) _
        first
        | exact ⟨f4, p4, hB4⟩
        | exact ⟨⟨f4.row⟩, ⟨p4.row⟩, ⟨hB4.os, hB4.tape, hB4.output, hB4.size, hB4.block⟩⟩
  case rest =>
    obtain ⟨F, Pc, hBx⟩ := hcut
    obtain ⟨q0, q1, q2, -, -, -⟩ := F.three
    obtain ⟨p0, -, -, -, -, p5, -, -⟩ := spec_cells Pc
    have hBw : B ≤ wc.heap.size := Nat.le_of_lt F.lt
    have HBX := Lib.hid hBx
    have HF := Lib.hid F
    have hlen : ((SG.data.toList ++ BU.data.toList ++ DU.data.toList).length : Int) = (SG.size : Int) + (BU.size : Int) + (DU.size : Int) := by
      rw [List.length_append, List.length_append, ba_len, ba_len, ba_len]; omega
    have hbd : (SG ++ BU ++ DU).size ≤ 1099511627776 := by rw [ByteArray.size_append, ByteArray.size_append]; omega
    have CF := Lib.hid (fun W => fill_any (SG ++ BU ++ DU) (wd - ((SG.size : Int) + (BU.size : Int) + (DU.size : Int))) m W hbd (by omega) (by omega))
    have CR := Lib.hid (fun W => rep_any 48 (wd - ((SG.size : Int) + (BU.size : Int) + (DU.size : Int))) W (by omega) (by omega))
    have HX2 := Lib.hid (show X = (if no = true ∧ m = false then SG ++ BU ++ ⟨(List.replicate (wd - ((SG.size : Int) + (BU.size : Int) + (DU.size : Int))).toNat (48 : UInt8)).toArray⟩ ++ DU else ⟨(fillL (SG ++ BU ++ DU).data.toList (wd - ((SG.size : Int) + (BU.size : Int) + (DU.size : Int))) m).toArray⟩) by
      rw [HX.out]
      unfold laidL
      rw [hlen]
      split
      · rw [ba_four]
      · rw [ba_three])
    clear hlen hbd F Pc hBx HX HU CB CD CA FP FW HSZ HB0
    by_cases hc : no = true ∧ m = false
    · have HX3 := HX2.out
      rw [if_pos hc] at HX3
      obtain ⟨rfl, rfl⟩ := hc
      obtain ⟨Z, hZ⟩ : ∃ Z : ByteArray, (⟨(List.replicate (wd - ((SG.size : Int) + (BU.size : Int) + (DU.size : Int))).toNat (48 : UInt8)).toArray⟩ : ByteArray) = Z := ⟨_, rfl⟩
      have hZs : Z.size ≤ 1000000 := by rw [← ba_len, ← hZ]; show (List.replicate _ (48 : UInt8)).length ≤ _; rw [List.length_replicate]; omega
      have c1 : ¬ 9223372036854775807 < SG.size + BU.size := by omega
      have c2 : ¬ 9223372036854775807 < SG.size + BU.size + Z.size := by omega
      have c3 : ¬ 9223372036854775807 < SG.size + BU.size + Z.size + DU.size := by omega
      have CR := CR.out
      rw [hZ] at CR HX3
      have CR := Lib.hid CR
      have HX3 := Lib.hid HX3
      clear hZ HX2 CF
      have HCW := Lib.hid (fun (W : World) (h : Below wc.heap.size wc W) => (show W.cell? ⟨B, 0, none⟩ = some (.string SG) ∧ W.cell? ⟨B, 1, none⟩ = some (.string BU) ∧ W.cell? ⟨B, 2, none⟩ = some (.string DU) from ⟨(HF.out.below h).cell 0, (HF.out.below h).cell 1, (HF.out.below h).cell 2⟩))
      go_wp2_with fail
      go_region_held3 (fun w' => w'.cell? ⟨B, 0, none⟩ = some (.string SG) ∧ w'.cell? ⟨B, 1, none⟩ = some (.string BU) ∧ w'.cell? ⟨B, 2, none⟩ = some (.string DU))
        (first | (with_reducible exact S1) | go_keep)
        (first
        | (go_at_call 129; (with_reducible refine (CR.out _).mono ?_); rintro e W3 ⟨rfl, h3⟩; have b3 : Below wc.heap.size wc W3 := ⟨h3.os, h3.tape, h3.output, h3.size, h3.block⟩; have S1 := HCW.out _ b3; clear h3))
      all_goals
        have hBf := HBX.out.trans (b3.mono hBw)
        go_wp2_with fail
        go_ret
        exact ⟨by show Ending.returned (.string (SG ++ BU ++ Z ++ DU)) = _; rw [HX3.out], by first | exact hBf | exact ⟨hBf.os, hBf.tape, hBf.output, hBf.size, hBf.block⟩⟩
    · have HX3 := HX2.out
      rw [if_neg hc] at HX3
      have CF := CF.out
      obtain ⟨Y, hY⟩ : ∃ Y : ByteArray, (⟨(fillL (SG ++ BU ++ DU).data.toList (wd - ((SG.size : Int) + (BU.size : Int) + (DU.size : Int))) m).toArray⟩ : ByteArray) = Y := ⟨_, rfl⟩
      rw [hY] at CF HX3
      have CF := Lib.hid CF
      have HX3 := Lib.hid HX3
      clear HX2 CR hY
      have hc2 : no = false ∨ (no = true ∧ m = true) := by
        cases no
        · exact Or.inl rfl
        · cases m
          · exact absurd ⟨rfl, rfl⟩ hc
          · exact Or.inr ⟨rfl, rfl⟩
      clear hc
      rcases hc2 with rfl | ⟨rfl, rfl⟩
      all_goals
        go_wp2_with fail
        refine (CF.out _).mono ?_
        rintro e W3 ⟨rfl, h3⟩
        have hBf := HBX.out.trans (h3.mono hBw)
        clear h3
        go_wp2_with fail
        go_ret
        exact ⟨by show Ending.returned (.string Y) = _; rw [HX3.out], hBf⟩
theorem asc_dec {l : List UInt8} (h : Dec l) : AscL l := fun c hc => by have := h c hc; omega
theorem asc_app {l k : List UInt8} (h : AscL l) (g : AscL k) : AscL (l ++ k) := fun c hc => (List.mem_append.1 hc).elim (h c) (g c)
theorem asc_sub {l k : List UInt8} (h : AscL l) (g : ∀ c ∈ k, c ∈ l) : AscL k := fun c hc => h c (g c hc)
theorem asc_cons {x : UInt8} {l : List UInt8} (hx : x.toNat < 128) (h : AscL l) : AscL (x :: l) := fun c hc => by
  rcases List.mem_cons.1 hc with rfl | hc
  · exact hx
  · exact h c hc
theorem asc_nil : AscL [] := fun c hc => by cases hc
theorem asc_ptT {d : List UInt8} (h : Dec d) (q : Bool) : AscL (ptT d q) := by
  unfold ptT
  split
  · exact asc_app (asc_dec (dec_take h 1)) (asc_cons (by decide) (asc_dec (dec_drop h 1)))
  · exact asc_dec h
theorem asc_expT (P : Int) : AscL (expT P) := by
  unfold expT
  refine asc_app ?_ (asc_app ?_ (asc_dec (dec_decs _)))
  · split
    · exact asc_cons (by decide) (asc_cons (by decide) asc_nil)
    · exact asc_cons (by decide) (asc_cons (by decide) asc_nil)
  · split
    · exact asc_cons (by decide) asc_nil
    · exact asc_nil
theorem asc_fixP (r q : Nat) (full : Bool) : AscL (fixP r q full) := by
  unfold fixP
  refine asc_app ?_ ?_
  · unfold fixT
    split
    · exact asc_dec (dec_decs _)
    · exact asc_app (asc_dec (dec_take (padT_dec (dec_decs _) _) _)) (asc_cons (by decide) (asc_dec (dec_drop (padT_dec (dec_decs _) _) _)))
  · split
    · exact asc_cons (by decide) asc_nil
    · exact asc_nil
theorem asc_trimG (full : Bool) {d : List UInt8} (h : AscL d) : AscL (trimG full d) := by
  unfold trimG
  split
  · refine asc_sub h fun c hc => ?_
    obtain ⟨k, hk⟩ := trim_split d 48
    have h1 : c ∈ Lib.trimRightB d 48 := by
      unfold Lib.trimSuffix at hc
      split at hc
      · exact List.mem_of_mem_take hc
      · exact hc
    rw [hk]
    exact List.mem_append_left _ h1
  · exact h
theorem asc_gen (w : World) {r n : Nat} (hr : r < 9218868437227405312) (hn : n ≤ 200) (full : Bool) : AscL (genT r n full) := by
  unfold genT
  split
  · exact asc_app (asc_trimG _ (asc_ptT (sciX_facts w hr hn).2.1 _)) (asc_expT _)
  · exact asc_trimG _ (asc_fixP _ _ _)
theorem asc_ptD (w : World) {r : Nat} (hr : r < 9218868437227405312) {pr : Int} (_h0 : -1 ≤ pr) (h1 : pr ≤ 190) (a : Bool) (c : Nat) : AscL (ptD r pr a c) := by
  have hq : (if pr < 0 then (6 : Int) else pr).toNat ≤ 190 := by split <;> omega
  have hq2 : (max 1 (if pr < 0 then (6 : Int) else pr) - 1).toNat ≤ 190 := by split <;> omega
  unfold ptD
  split
  · exact asc_fixP _ _ _
  · split
    · exact asc_app (asc_ptT (sciX_facts w hr (by omega)).2.1 _) (asc_expT _)
    · exact asc_gen w hr (by omega) _
theorem trimG_len (full : Bool) (d : List UInt8) : (trimG full d).length ≤ d.length := by
  unfold trimG
  split
  · exact Nat.le_trans (trimS_len _ _) (trimR_len _ _)
  · omega
theorem len_gen (w : World) {r n : Nat} (hr : r < 9218868437227405312) (hn : n ≤ 190) (full : Bool) : (genT r n full).length ≤ 4000 := by
  obtain ⟨hl, -, b0, b1⟩ := sciX_facts w hr (show n ≤ 200 by omega)
  unfold genT
  split
  · rw [List.length_append]
    have h1 := trimG_len full (ptT (sciX r n).1 (decide (0 < n) || full))
    have h2 := ptT_len (sciX r n).1 (decide (0 < n) || full)
    have h3 := expT_len b0 b1
    omega
  · refine Nat.le_trans (trimG_len _ _) (Nat.le_trans (fixP_len hr (by omega) _) (by omega))
theorem len_ptD (w : World) {r : Nat} (hr : r < 9218868437227405312) {pr : Int} (_h0 : -1 ≤ pr) (h1 : pr ≤ 190) (a : Bool) (c : Nat) : (ptD r pr a c).length ≤ 4000 := by
  have hq : (if pr < 0 then (6 : Int) else pr).toNat ≤ 190 := by split <;> omega
  have hq2 : (max 1 (if pr < 0 then (6 : Int) else pr) - 1).toNat ≤ 190 := by split <;> omega
  unfold ptD
  split
  · exact Nat.le_trans (fixP_len hr (by omega) _) (by omega)
  · split
    · obtain ⟨hl, -, b0, b1⟩ := sciX_facts w hr (show (if pr < 0 then (6 : Int) else pr).toNat ≤ 200 by omega)
      rw [List.length_append]
      have h2 := ptT_len (sciX r (if pr < 0 then (6 : Int) else pr).toNat).1 (decide (0 < (if pr < 0 then (6 : Int) else pr).toNat) || a)
      have h3 := expT_len b0 b1
      omega
    · exact len_gen w hr (by omega) _
end Go.Proofs.YtbbbdcohkfijoaaGreatDoor

namespace Go.Proofs.YtbbbdcohkfijoaaGreatDoor
open Go.RowKit Go.Lib

/-- Floats in order: a whole number for each that is no NaN. -/
def keyZ (x : Nat) : Int := if (x / 9223372036854775808 % 2 == 1) = true then -(mag x : Int) else (mag x : Int)
theorem cmp_ext {a b c d : Int} (h1 : a < b ↔ c < d) (h2 : a = b ↔ c = d) : compare a b = compare c d := by
  rcases Int.lt_trichotomy a b with h | h | h
  · rw [Int.compare_eq_lt.2 h, Int.compare_eq_lt.2 (h1.1 h)]
  · rw [Int.compare_eq_eq.2 h, Int.compare_eq_eq.2 (h2.1 h)]
  · rw [Int.compare_eq_gt.2 h, Int.compare_eq_gt.2 (by omega)]
theorem cmp_iff {a b c d : Int} (h : compare a b = compare c d) : (a < b ↔ c < d) ∧ (a = b ↔ c = d) :=
  ⟨by rw [← Int.compare_eq_lt, ← Int.compare_eq_lt, h], by rw [← Int.compare_eq_eq, ← Int.compare_eq_eq, h]⟩
theorem manF_zero {r : Nat} : manF r = 0 ↔ r = 0 := by
  unfold manF
  split <;> omega
theorem order_key {x y : Nat} (hx : mag x ≤ 9218868437227405312) (hy : mag y ≤ 9218868437227405312) : Ieee.double.order x y = some (compare (keyZ x) (keyZ y)) := by
  unfold Ieee.Format.order keyZ
  have bx := mag_lt x
  have by' := mag_lt y
  rcases Nat.lt_or_ge (mag x) 9218868437227405312 with h1 | h1
  · rcases Nat.lt_or_ge (mag y) 9218868437227405312 with h2 | h2
    · have hV := order_V h1 h2
      unfold Ieee.Format.order at hV
      rw [read_fin (by rw [mag_no h1]; exact h1), read_fin (by rw [mag_no h2]; exact h2), mag_no h1, mag_no h2] at hV
      rw [read_fin h1, read_fin h2]
      have s1 : (mag x / 9223372036854775808 % 2 == 1) = false := by rw [beq_eq_false_iff_ne]; omega
      have s2 : (mag y / 9223372036854775808 % 2 == 1) = false := by rw [beq_eq_false_iff_ne]; omega
      rw [s1, s2] at hV
      change some (compare (Ieee.signed false (manF (mag x)) (expF (mag x) - min (expF (mag x)) (expF (mag y))).toNat) (Ieee.signed false (manF (mag y)) (expF (mag y) - min (expF (mag x)) (expF (mag y))).toNat)) = _ at hV
      change some (compare (Ieee.signed _ (manF (mag x)) (expF (mag x) - min (expF (mag x)) (expF (mag y))).toNat) (Ieee.signed _ (manF (mag y)) (expF (mag y) - min (expF (mag x)) (expF (mag y))).toNat)) = _
      have hz1 := @manF_zero (mag x)
      have hz2 := @manF_zero (mag y)
      generalize (x / 9223372036854775808 % 2 == 1) = sx
      generalize (y / 9223372036854775808 % 2 == 1) = sy
      generalize (expF (mag x) - min (expF (mag x)) (expF (mag y))).toNat = k1 at *
      generalize (expF (mag y) - min (expF (mag x)) (expF (mag y))).toNat = k2 at *
      generalize manF (mag x) = m1 at *
      generalize manF (mag y) = m2 at *
      unfold Ieee.signed at hV ⊢
      have q1 : m1 <<< k1 = 0 ↔ m1 = 0 := by
        rw [Nat.shiftLeft_eq]
        constructor
        · intro h
          rcases Nat.mul_eq_zero.1 h with h | h
          · exact h
          · have := Nat.pow_pos (n := k1) (show 0 < 2 by omega); omega
        · rintro rfl; exact Nat.zero_mul _
      have q2 : m2 <<< k2 = 0 ↔ m2 = 0 := by
        rw [Nat.shiftLeft_eq]
        constructor
        · intro h
          rcases Nat.mul_eq_zero.1 h with h | h
          · exact h
          · have := Nat.pow_pos (n := k2) (show 0 < 2 by omega); omega
        · rintro rfl; exact Nat.zero_mul _
      generalize m1 <<< k1 = A at *
      generalize m2 <<< k2 = C at *
      obtain ⟨e1, e2⟩ := cmp_iff (Option.some.inj hV)
      simp only [Bool.false_eq_true, ↓reduceIte] at e1 e2
      congr 1
      have n1 : A = 0 ↔ mag x = 0 := q1.trans hz1
      have n2 : C = 0 ↔ mag y = 0 := q2.trans hz2
      clear q1 q2 hz1 hz2 hV
      cases sx <;> cases sy <;> simp only [Bool.false_eq_true, ↓reduceIte]
      all_goals refine cmp_ext ⟨fun h => ?_, fun h => ?_⟩ ⟨fun h => ?_, fun h => ?_⟩ <;> omega
    · rw [read_fin h1, read_inf (by omega)]
      show some (if (y / 9223372036854775808 % 2 == 1) then Ordering.gt else Ordering.lt) = _
      generalize (x / 9223372036854775808 % 2 == 1) = sx
      generalize (y / 9223372036854775808 % 2 == 1) = sy
      congr 1
      cases sx <;> cases sy <;> simp only [Bool.false_eq_true, ↓reduceIte]
      · exact (Int.compare_eq_lt.2 (by omega)).symm
      · exact (Int.compare_eq_gt.2 (by omega)).symm
      · exact (Int.compare_eq_lt.2 (by omega)).symm
      · exact (Int.compare_eq_gt.2 (by omega)).symm
  · rcases Nat.lt_or_ge (mag y) 9218868437227405312 with h2 | h2
    · rw [read_inf (by omega), read_fin h2]
      show some (if (x / 9223372036854775808 % 2 == 1) then Ordering.lt else Ordering.gt) = _
      generalize (x / 9223372036854775808 % 2 == 1) = sx
      generalize (y / 9223372036854775808 % 2 == 1) = sy
      congr 1
      cases sx <;> cases sy <;> simp only [Bool.false_eq_true, ↓reduceIte]
      · exact (Int.compare_eq_gt.2 (by omega)).symm
      · exact (Int.compare_eq_gt.2 (by omega)).symm
      · exact (Int.compare_eq_lt.2 (by omega)).symm
      · exact (Int.compare_eq_lt.2 (by omega)).symm
    · rw [read_inf (by omega), read_inf (by omega)]
      have e1 : mag x = 9218868437227405312 := by omega
      have e2 : mag y = 9218868437227405312 := by omega
      rw [e1, e2]
      generalize (x / 9223372036854775808 % 2 == 1) = sx
      generalize (y / 9223372036854775808 % 2 == 1) = sy
      cases sx <;> cases sy <;> rfl
theorem order_nan_l {x y : Nat} (h : 9218868437227405312 < mag x) : Ieee.double.order x y = none := by
  unfold Ieee.Format.order
  rw [read_nan h]
  rfl
theorem order_nan_r {x y : Nat} (h : 9218868437227405312 < mag y) : Ieee.double.order x y = none := by
  unfold Ieee.Format.order
  rw [read_nan h]
  cases Ieee.double.read x <;> rfl
/-- Is it +inf, is it -inf? -/
def infP (x : Nat) : Bool := decide (x = 9218868437227405312)
def infM (x : Nat) : Bool := decide (x = 18442240474082181120)
theorem inf_gt (x : Nat) (hb : x < 18446744073709551616) : (FloatKind.f64.format.order x 9218868437227405311 == some .gt) = infP x := by
  change (Ieee.double.order x 9218868437227405311 == some .gt) = infP x
  have hm : mag 9218868437227405311 = 9218868437227405311 := by decide
  unfold infP
  rcases Nat.lt_or_ge 9218868437227405312 (mag x) with h | h
  · rw [order_nan_l h, decide_eq_false (by unfold mag at h; omega)]
    rfl
  · rw [order_key h (by rw [hm]; decide)]
    have hk : keyZ 9218868437227405311 = 9218868437227405311 := by decide
    rw [hk]
    by_cases he : x = 9218868437227405312
    · rw [decide_eq_true he, he]
      decide
    · rw [decide_eq_false he]
      have hle : keyZ x ≤ 9218868437227405311 := by
        unfold keyZ
        unfold mag at h ⊢
        split
        · omega
        · rename_i hs
          rw [beq_iff_eq] at hs
          omega
      rw [beq_eq_false_iff_ne]
      intro hc
      have := Int.compare_eq_gt.1 (Option.some.inj hc)
      omega
set_option maxRecDepth 100000 in
theorem isInfP_any (x : Nat) (w : World) (hb : x < 18446744073709551616) : Calls Tryz.prog 128 #[.float .f64 x, .int .i64 1] w fun e w' => e = .returned (.bool (infP x)) ∧ w = w' := by
  have h := inf_gt x hb
  go_enter Tryz.func128, Tryz.ntmps128
  go_wp2
  go_ret
  exact ⟨rfl, rfl⟩
theorem neg_infM (x : Nat) (hb : x < 18446744073709551616) : (FloatKind.f64.format.order (Op.negFloat .f64 x) 9218868437227405311 == some .gt) = infM x := by
  rcases Nat.lt_or_ge x 9223372036854775808 with h | h
  · rw [neg_pos h, inf_gt _ (by omega)]
    unfold infP infM
    rw [decide_eq_false (by omega), decide_eq_false (by omega)]
  · obtain ⟨t, rfl⟩ : ∃ t, x = 9223372036854775808 + t := ⟨x - 9223372036854775808, by omega⟩
    rw [neg_neg' (by omega), inf_gt _ (by omega)]
    unfold infP infM
    by_cases ht : t = 9218868437227405312
    · rw [decide_eq_true ht, decide_eq_true (by omega)]
    · rw [decide_eq_false ht, decide_eq_false (by omega)]
set_option maxRecDepth 100000 in
theorem isInfM_any (x : Nat) (w : World) (hb : x < 18446744073709551616) : Calls Tryz.prog 128 #[.float .f64 x, .int .i64 (-1)] w fun e w' => e = .returned (.bool (infM x)) ∧ w = w' := by
  have h := neg_infM x hb
  have hn := fun W => run_neg Tryz.prog x W
  go_enter Tryz.func128, Tryz.ntmps128
  go_wp2
  go_ret
  exact ⟨rfl, rfl⟩
/-- What a number is called that has no digits. -/
def oddL (x : Nat) : Option (List UInt8) := if nanB x = true then some [43, 110, 97, 110] else if infP x = true then some [43, 105, 110, 102] else if infM x = true then some [45, 105, 110, 102] else none
set_option maxRecDepth 100000 in
theorem boundless_any (x : Nat) (w : World) (hb : x < 18446744073709551616) : Calls Tryz.prog 74 #[.float .f64 x] w fun e w' => e = .returned (.tuple #[.string ⟨((oddL x).getD []).toArray⟩, .bool (oddL x).isSome]) ∧ w = w' := by
  have c1 := fun W => isNaN_any x W
  have c2 := fun W => isInfP_any x W hb
  have c3 := fun W => isInfM_any x W hb
  unfold oddL
  generalize nanB x = n at *
  generalize infP x = i at *
  generalize infM x = j at *
  have C1 := Lib.hid c1
  have C2 := Lib.hid c2
  have C3 := Lib.hid c3
  clear c1 c2 c3
  cases n with
  | true =>
    go_enter Tryz.func74, Tryz.ntmps74
    go_wp2_with fail
    refine (C1.out _).mono ?_
    rintro e w' ⟨rfl, rfl⟩
    go_wp2_with fail
    go_ret2
    exact ⟨rfl, rfl⟩
  | false =>
    cases i with
    | true =>
      go_enter Tryz.func74, Tryz.ntmps74
      go_wp2_with fail
      refine (C1.out _).mono ?_
      rintro e w' ⟨rfl, rfl⟩
      go_wp2_with fail
      refine (C2.out _).mono ?_
      rintro e w' ⟨rfl, rfl⟩
      go_wp2_with fail
      go_ret2
      exact ⟨rfl, rfl⟩
    | false =>
      cases j with
      | true =>
        go_enter Tryz.func74, Tryz.ntmps74
        go_wp2_with fail
        refine (C1.out _).mono ?_
        rintro e w' ⟨rfl, rfl⟩
        go_wp2_with fail
        refine (C2.out _).mono ?_
        rintro e w' ⟨rfl, rfl⟩
        go_wp2_with fail
        refine (C3.out _).mono ?_
        rintro e w' ⟨rfl, rfl⟩
        go_wp2_with fail
        go_ret2
        exact ⟨rfl, rfl⟩
      | false =>
        go_enter Tryz.func74, Tryz.ntmps74
        go_wp2_with fail
        refine (C1.out _).mono ?_
        rintro e w' ⟨rfl, rfl⟩
        go_wp2_with fail
        refine (C2.out _).mono ?_
        rintro e w' ⟨rfl, rfl⟩
        go_wp2_with fail
        refine (C3.out _).mono ?_
        rintro e w' ⟨rfl, rfl⟩
        go_wp2_with fail
        go_ret2
        exact ⟨rfl, rfl⟩
theorem odd_none {x : Nat} (h : mag x < 9218868437227405312) : oddL x = none := by
  unfold oddL
  rw [nan_no (by omega), if_neg (by decide)]
  have h1 : infP x = false := decide_eq_false (by rintro rfl; exact absurd h (by decide))
  have h2 : infM x = false := decide_eq_false (by rintro rfl; exact absurd h (by decide))
  rw [h1, h2]
  rfl
end Go.Proofs.YtbbbdcohkfijoaaGreatDoor

namespace Go.Proofs.YtbbbdcohkfijoaaGreatDoor
open Go.RowKit Go.Lib

/-- Capitals, if the verb writes them. -/
def capL (c : Nat) (l : List UInt8) : List UInt8 := if vCap.contains c.toUInt8 = true then Lib.toUpperA l else l
noncomputable def pointT (m p b a z : Bool) (wd pr : Int) (c x : Nat) : List UInt8 := laidL (signL p b c (sbB x)) [] (capL c (ptD (mag x) pr a c)) wd m z
theorem chk_bd {wd pr : Int} {c : Nat} (h : chkB wd pr c = true) : 0 ≤ wd ∧ wd ≤ 1024 ∧ -1 ≤ pr ∧ pr ≤ 190 := by
  unfold chkB at h
  simp only [Bool.and_eq_true, decide_eq_true_eq] at h
  exact ⟨h.1.1.1, h.1.1.2, h.1.2.1, h.1.2.2⟩
set_option maxRecDepth 100000 in
set_option maxHeartbeats 8000000 in
theorem number_point (m p b a z : Bool) (wd pr : Int) (c : Nat) (x : Nat) (w : World) (hb : x < 18446744073709551616) (h : mag x < 9218868437227405312) (hk : chkB wd pr c = true) (hv : vNum.contains c.toUInt8 = true) (hw : vWhole.contains c.toUInt8 = false) (hT : PowTab w) :
    Calls Tryz.prog 25 #[.agg #[.bool m, .bool p, .bool b, .bool a, .bool z, .int .i64 wd, .int .i64 pr, .int .u8 (c : Int)], .float .f64 x] w fun e w' => e = .returned (.tuple #[.string ⟨(pointT m p b a z wd pr c x).toArray⟩, .int .i64 0]) ∧ Below w.heap.size w w' := by
  obtain ⟨d0, d1, d2, d3⟩ := chk_bd hk
  have cK := fun W => check_any m p b a z wd pr c W
  rw [hk, if_pos rfl] at cK
  have cA := fun W => among_any ⟨#[100, 105, 111, 120, 88, 117, 101, 69, 102, 70, 103, 71]⟩ c W
  replace cA : ∀ w : World, Calls Tryz.prog 73 #[.string ⟨#[100, 105, 111, 120, 88, 117, 101, 69, 102, 70, 103, 71]⟩, .int .u8 (c : Int)] w fun e w' => e = .returned (.bool (vNum.contains c.toUInt8)) ∧ w = w' := cA
  rw [hv] at cA
  have cW := fun W => among_any ⟨#[100, 105, 111, 120, 88, 117]⟩ c W
  replace cW : ∀ w : World, Calls Tryz.prog 73 #[.string ⟨#[100, 105, 111, 120, 88, 117]⟩, .int .u8 (c : Int)] w fun e w' => e = .returned (.bool (vWhole.contains c.toUInt8)) ∧ w = w' := cW
  rw [hw] at cW
  have cO := fun W => boundless_any x W hb
  rw [odd_none h] at cO
  replace cO : ∀ w : World, Calls Tryz.prog 74 #[.float .f64 x] w fun e w' => e = .returned (.tuple #[.string ⟨#[]⟩, .bool false]) ∧ w = w' := cO
  have cP := fun W hW => pointed_any m p b a z wd pr c x W hb h d2 d3 hW
  obtain ⟨SG, hSG⟩ : ∃ SG : ByteArray, (⟨(signL p b c (sbB x)).toArray⟩ : ByteArray) = SG := ⟨_, rfl⟩
  obtain ⟨D, hD⟩ : ∃ D : ByteArray, (⟨(ptD (mag x) pr a c).toArray⟩ : ByteArray) = D := ⟨_, rfl⟩
  have hSl : SG.data.toList = signL p b c (sbB x) := by rw [← hSG]
  have hDl : D.data.toList = ptD (mag x) pr a c := by rw [← hD]
  have s1 : SG.size ≤ 10 := by rw [← ba_len, hSl]; exact Nat.le_trans (sgn_len _ _ _ _) (by omega)
  have s3 : D.size ≤ 20000 := by rw [← ba_len, hDl]; exact Nat.le_trans (len_ptD w h d2 d3 a c) (by omega)
  have hAs : AscL D.data.toList := by rw [hDl]; exact asc_ptD w h d2 d3 a c
  rw [hSG, hD] at cP
  obtain ⟨X, hX⟩ : ∃ X : ByteArray, (⟨(pointT m p b a z wd pr c x).toArray⟩ : ByteArray) = X := ⟨_, rfl⟩
  have cQ := fun W => padded_core m p b a z wd pr c z SG ⟨#[]⟩ D ⟨#[]⟩ ⟨(capL c (ptD (mag x) pr a c)).toArray⟩ X W (by omega) (by omega) s1 (by decide) s3 asc_nil hAs (by
    unfold capL
    split
    · exact ⟨rfl, by rw [hDl]⟩
    · exact ⟨rfl, hD⟩) (by rw [← hX, hSl]; rfl)
  unfold PadEnd at cQ
  rw [hX]
  have CK := Lib.hid cK
  have CA := Lib.hid cA
  have CW := Lib.hid cW
  have CO := Lib.hid cO
  have CP := Lib.hid cP
  have CQ := Lib.hid cQ
  have HT := Lib.hid (Lib.tabBelow_of_tabIs hT)
  have FP := Lib.hid (Five.new w #[.bool m, .bool p, .bool b, .bool a, .bool z, .int .i64 wd, .int .i64 pr, .int .u8 (c : Int)] 35)
  have HB0 := Lib.hid ((Below.refl w.heap.size w).alloc (Nat.le_refl _) (.cells #[.bool m, .bool p, .bool b, .bool a, .bool z, .int .i64 wd, .int .i64 pr, .int .u8 (c : Int)] 35))
  obtain ⟨W1, hW1⟩ : ∃ W1, w.alloc (.cells #[.bool m, .bool p, .bool b, .bool a, .bool z, .int .i64 wd, .int .i64 pr, .int .u8 (c : Int)] 35) = W1 := ⟨_, rfl⟩
  rw [hW1] at FP HB0
  have HW1 := Lib.hid hW1
  clear cK cA cW cO cP cQ hT hW1 hX hSG hD hSl hDl s1 s3 hAs hk hv hw h hb d0 d1 d2 d3
  have hle : w.heap.size ≤ W1.heap.size := HB0.out.size
  obtain ⟨B, hB⟩ : ∃ B, w.heap.size = B := ⟨_, rfl⟩
  rw [hB] at FP HB0 HT hle ⊢
  obtain ⟨p0, p1, p2, p3, p4, p5, p6, p7⟩ := spec_cells FP.out
  have HB := Lib.hid hB
  clear hB
  go_enter Tryz.func25, Tryz.ntmps25
  go_wp2_with fail
  rw [HW1.out, HB.out]
  refine (CK.out _).mono ?_
  rintro e W2 ⟨rfl, h2⟩
  clear p0 p1 p2 p3 p4 p5 p6 p7
  obtain ⟨p0, p1, p2, p3, p4, p5, p6, p7⟩ := spec_cells (FP.out.below h2)
  have FP2 := Lib.hid (FP.out.below h2)
  have HB2 := Lib.hid (HB0.out.trans (h2.mono hle))
  have hle2 : B ≤ W2.heap.size := Nat.le_trans hle h2.size
  clear h2
  go_wp2_with fail
  refine (CA.out _).mono ?_
  rintro e w' ⟨rfl, rfl⟩
  go_wp2_with fail
  refine (CO.out _).mono ?_
  rintro e w' ⟨rfl, rfl⟩
  go_wp2_with fail
  refine (CW.out _).mono ?_
  rintro e w' ⟨rfl, rfl⟩
  go_wp2_with fail
  have HCW := Lib.hid (fun (W : World) (h : Below W2.heap.size W2 W) => spec_cells (FP2.out.below h))
  have HTW := Lib.hid (fun (W : World) (h : Below W2.heap.size W2 W) => HT.out W (HB2.out.trans (h.mono hle2)))
  have hR := Below.refl W2.heap.size W2
  go_region_held3 (fun w' => w'.cell? ⟨B, 0, none⟩ = some (.bool m) ∧ w'.cell? ⟨B, 1, none⟩ = some (.bool p) ∧ w'.cell? ⟨B, 2, none⟩ = some (.bool b) ∧ w'.cell? ⟨B, 3, none⟩ = some (.bool a) ∧ w'.cell? ⟨B, 4, none⟩ = some (.bool z) ∧ w'.cell? ⟨B, 5, none⟩ = some (.int .i64 wd) ∧ w'.cell? ⟨B, 6, none⟩ = some (.int .i64 pr) ∧ w'.cell? ⟨B, 7, none⟩ = some (.int .u8 (c : Int)))
      (first | (with_reducible exact S2) | (with_reducible exact S1) | go_keep)
      (first
      | (go_at_call 78; (with_reducible refine (CP.out _ (HTW.out _ (by first | exact hR | exact below_drewN hR _ | exact hR.drew))).mono ?_); rintro e W3 ⟨rfl, h3⟩; have b3 : Below W2.heap.size W2 W3 := ⟨h3.os, h3.tape, h3.output, h3.size, h3.block⟩; have S1 := HCW.out _ b3; clear h3)
      | (go_at_call 77; (with_reducible refine (CQ.out _).mono ?_); rintro e W4 ⟨rfl, h4⟩; have b4 : Below W2.heap.size W2 W4 := b3.trans ((⟨h4.os, h4.tape, h4.output, h4.size, h4.block⟩ : Below W3.heap.size W3 W4).mono b3.size); have S2 := HCW.out _ b4; clear h4))
  all_goals
    have hBf := HB2.out.trans (b4.mono hle2)
    go_wp2_with fail
    go_ret2
    exact ⟨rfl, by first | exact hBf | exact ⟨hBf.os, hBf.tape, hBf.output, hBf.size, hBf.block⟩⟩
end Go.Proofs.YtbbbdcohkfijoaaGreatDoor

namespace Go.Proofs.YtbbbdcohkfijoaaGreatDoor
open Go.RowKit Go.Lib

set_option maxRecDepth 100000 in
set_option maxHeartbeats 2000000 in
/-- strings.Cut at a byte that stands first, or of an empty text. -/
theorem cut_first (s : ByteArray) (x : UInt8) (w : World) (hs : s.size ≤ 4611686018427387904) (h : s.data.toList = [] ∨ ∃ t, s.data.toList = x :: t) :
    Calls Tryz.prog 283 #[.string s, .string ⟨#[x]⟩] w fun e w' => (∃ T F, e = .returned (.tuple #[.string ⟨#[]⟩, .string T, .bool F])) ∧ Below w.heap.size w w' := by
  have cI := fun W => Tryz.stringslite_Index_one s x W
  rcases h with h | ⟨t, h⟩
  · have hx : Lib.indexByte s.data.toList x = -1 := by rw [h]; rfl
    rw [hx] at cI
    have hs0 : s = ⟨#[]⟩ := by rw [← Lib.mk_data s, h]
    have CI := Lib.hid cI
    clear cI hx h
    subst hs0
    go_enter Tryz.func283, Tryz.ntmps283
    go_wp2_with fail
    refine (CI.out _).mono ?_
    rintro e w' ⟨rfl, rfl⟩
    go_wp2_with fail
    go_ret3
    exact ⟨⟨_, _, rfl⟩, Below.refl _ _⟩
  · have hx : Lib.indexByte s.data.toList x = 0 := by
      rw [h]
      show (if (x == x) = true then (0 : Int) else _) = 0
      rw [beq_self_eq_true, if_pos rfl]
    rw [hx] at cI
    have h1 : 1 ≤ s.size := by rw [← ba_len, h]; simp
    have CI := Lib.hid cI
    clear cI hx h
    go_enter Tryz.func283, Tryz.ntmps283
    go_wp2_with fail
    refine (CI.out _).mono ?_
    rintro e w' ⟨rfl, rfl⟩
    go_wp2_with fail
    have h1i : (1 : Int) ≤ (s.size : Int) := by omega
    have hw1 : IntKind.i64.wrap (0 + 1) = 1 := by decide
    go_quiet (fail)
    go_wp2_with fail
    go_ret3
    refine ⟨⟨s.extract 1 s.size, true, ?_⟩, below_drewN (Below.refl _ _) _⟩
    simp
    rfl
theorem cutS_first (s : ByteArray) (x : UInt8) (w : World) (hs : s.size ≤ 4611686018427387904) (h : s.data.toList = [] ∨ ∃ t, s.data.toList = x :: t) :
    Calls Tryz.prog 238 #[.string s, .string ⟨#[x]⟩] w fun e w' => (∃ T F, e = .returned (.tuple #[.string ⟨#[]⟩, .string T, .bool F])) ∧ Below w.heap.size w w' := by
  have C := Lib.hid (cut_first s x w hs h)
  clear h
  go_enter Tryz.func238, Tryz.ntmps238
  go_wp2_with fail
  refine C.out.mono ?_
  rintro e w' ⟨⟨T, F, rfl⟩, hB⟩
  go_wp2_with fail
  go_ret3
  exact ⟨⟨_, _, rfl⟩, hB⟩
set_option maxRecDepth 100000 in
set_option maxHeartbeats 4000000 in
/-- Where a part begins, or at the end, nothing stands ahead. -/
theorem plain_none (S : ByteArray) (k g : Nat) (w : World) (hk : k ≤ S.size) (hS : S.size ≤ 4611686018427387904) (hR : Rdr w g S k) (h : k = S.size ∨ atB S k = 37) :
    Calls Tryz.prog 185 #[.pointer (some ⟨g, 0, none⟩)] w fun e w' => e = .returned (.string ⟨#[]⟩) ∧ Rdr w' g S k ∧ Out [g] w w' := by
  have hl : (S.extract k S.size).data.toList = S.data.toList.drop k := by
    rw [ByteArray.data_extract, Array.toList_extract]
    simp only [List.extract]
    rw [List.take_of_length_le]
    rw [List.length_drop, ba_len]
    omega
  have hx : (S.extract k S.size).data.toList = [] ∨ ∃ t, (S.extract k S.size).data.toList = 37 :: t := by
    rw [hl]
    rcases h with rfl | h
    · left
      rw [List.drop_eq_nil_iff, ba_len]
      omega
    · right
      have hlt := atB_size (S := S) (k := k) (by omega)
      rw [atB_in hlt] at h
      refine ⟨S.data.toList.drop (k + 1), ?_⟩
      have h3 := List.drop_eq_getElem_cons (l := S.data.toList) (i := k) (by rw [ba_len]; exact hlt)
      rw [h3]
      congr 1
      have h4 : S.data.toList[k]'(by rw [ba_len]; exact hlt) = S[k]'hlt := by
        have := ba_byte S rfl k hlt
        rw [List.getElem?_eq_getElem (by rw [ba_len]; exact hlt)] at this
        exact Option.some.inj this
      rw [h4]
      exact UInt8.toNat_inj.1 h
  have C := Lib.hid (fun (W : World) => cutS_first (S.extract k S.size) 37 W (by rw [ByteArray.size_extract]; omega) hx)
  have H := Lib.hid hR
  have c0 := hR.cell 0
  have c1 := hR.cell 1
  have f1 := hR.fro 1
  have hki : (k : Int) ≤ (S.size : Int) := by omega
  have hki0 : (0 : Int) ≤ (k : Int) := by omega
  have hw0 : wrap64 ((k : Int) + 0) = (k : Int) := by unfold wrap64; omega
  clear hx hl h hR
  go_enter Tryz.func185, Tryz.ntmps185
  go_wp2_with fail
  have HCW := Lib.hid (fun (W : World) (h : Below w.heap.size w W) => (show W.cell? ⟨g, 0, none⟩ = some (.string S) ∧ W.cell? ⟨g, 1, none⟩ = some (.int .i64 (k : Int)) from ⟨(H.out.below h).cell 0, (H.out.below h).cell 1⟩))
  clear c0 c1 f1
  have c0 : w.cell? ⟨g, 0, none⟩ = some (.string S) := H.out.cell 0
  have c1 : w.cell? ⟨g, 1, none⟩ = some (.int .i64 (k : Int)) := H.out.cell 1
  go_region_held3 (fun w' => w'.cell? ⟨g, 0, none⟩ = some (.string S) ∧ w'.cell? ⟨g, 1, none⟩ = some (.int .i64 (k : Int)))
    (first | (with_reducible exact S1) | go_keep)
    (first
    | (go_at_call 238; (with_reducible refine (C.out _).mono ?_); rintro e W3 ⟨⟨T, F, rfl⟩, h3⟩; have b3 : Below w.heap.size w W3 := ⟨h3.os, h3.tape, h3.output, h3.size, h3.block⟩; have S1 := HCW.out _ b3; clear h3))
  all_goals
    have f3 := (H.out.below b3).fro 1
    obtain ⟨d0, d1⟩ := S1
    have HB3 := Lib.hid b3
    clear b3
    go_wp2_with fail
    go_ret
    refine ⟨rfl, ?_, ?_⟩
    · first | exact (show Rdr _ g S k from H.out.below HB3.out).step k | exact (show Rdr _ g S k from (H.out.below HB3.out)) | exact ⟨((show Rdr _ g S k from H.out.below HB3.out).step k).row⟩
    · first | exact (Out.of_below HB3.out).set (p := ⟨g, 1, none⟩) (by simp) _ | exact Out.of_below HB3.out | exact ((Out.of_below HB3.out).drew _).set (p := ⟨g, 1, none⟩) (by simp) _
theorem isB_out {T e : TypeId} {B b g : Nat} {bs : List Value} {w w' : World} (h : Lib.IsBuilder T e B b bs w) (o : Out [g] w w') (hg : g < B) : Lib.IsBuilder T e B b bs w' := by
  have key : ∀ {p : Value}, Lib.BuilderAt T e B b p bs w → Lib.BuilderAt T e B b p bs w' := fun {p} ⟨hB, v, hb, hown, hne⟩ => by
    have same : ∀ {q : Nat} {ob : Obj}, B ≤ q → w.heap[q]? = some ob → w'.heap[q]? = some ob := fun {q ob} hq hx =>
      (o.block q (by simp; omega) (Array.getElem?_eq_some_iff.1 hx).1).trans hx
    refine ⟨hB, v, same hB hb, ⟨hown.1, ?_⟩, hne⟩
    rcases hown.2 with h1 | ⟨g2, cap, cur, hv, hbg, hg2, r⟩
    · exact Or.inl h1
    · exact Or.inr ⟨g2, cap, cur, hv, hbg, same hbg hg2, r⟩
  rcases h with h | h
  · exact Or.inl (key h)
  · exact Or.inr (key h)
theorem write_any (B b : Nat) (bs : List Value) (s : ByteArray) (w : World) (h : Lib.IsBuilder 234 5 B b bs w) (hlen : bs.length + s.size ≤ 140737488355328) (hBw : B ≤ w.heap.size) :
    Calls Tryz.prog 184 #[.pointer (some ⟨b, 0, none⟩), .string s] w fun e w' => e = .returned (.tuple #[.int .i64 s.size, .nilIface]) ∧ (Lib.IsBuilder 234 5 B b (bs ++ Lib.strCells s) w' ∧ Below B w w') :=
  (Any.Builder_WriteString (ρ := Tryz.lays158_ren) { Tryz.lays158 with } Tryz.Builder_Extra_158 B b bs s w h hlen hBw).mono fun _ _ ⟨h1, h2, h3⟩ => ⟨h1, Or.inr h2, h3⟩
end Go.Proofs.YtbbbdcohkfijoaaGreatDoor

namespace Go.Proofs.YtbbbdcohkfijoaaGreatDoor
open Go.RowKit Go.Lib

theorem Out.then_below {G : List Nat} {a b c : World} {B : Nat} (h : Out G a b) (k : Below B b c) (hB : a.heap.size ≤ B) : Out G a c :=
  ⟨k.os.trans h.os, k.tape.trans h.tape, k.output.trans h.output, Nat.le_trans h.size k.size, fun i hi hl => (k.block i (by omega)).trans (h.block i hi hl)⟩
theorem Five.belowB {W W' : World} {g B : Nat} {cs : Array Value} {t : TypeId} (h : Five W g cs t) (hb : Below B W W') (hg : g < B) : Five W' g cs t := ⟨(hb.block g hg).trans h.row⟩
theorem out_loop {G : List Nat} {a b c : World} (h : Out G a b) (k : Below b.heap.size b c) : Out G a c := h.then (Out.of_below (G := []) k) (fun x hx => by cases hx)
set_option maxRecDepth 100000 in
set_option maxHeartbeats 16000000 in
theorem filled_one (P T : ByteArray) (g x _nx : Nat) (m p b a z : Bool) (wd pr : Int) (c : Nat) (w : World) (hP : P.size ≤ 1000000) (hP0 : 0 < P.size) (hp : partF P 0 = some ⟨m, p, b, a, z, wd, pr, c, false, false, P.size⟩) (hc : c ≠ 37) (hR : Rdr w g P 0)
    (hN : ∀ W, PowTab W → Calls Tryz.prog 25 #[.agg #[.bool m, .bool p, .bool b, .bool a, .bool z, .int .i64 wd, .int .i64 pr, .int .u8 (c : Int)], .float .f64 x] W fun e w' => e = .returned (.tuple #[.string T, .int .i64 0]) ∧ Below W.heap.size W w')
    (hTs : T.size ≤ 1000000) (hT : ∀ W, Out [g] w W → PowTab W) :
    Calls Tryz.prog 125 #[.pointer (some ⟨g, 0, none⟩), .float .f64 x] w fun e w' => e = .returned (.tuple #[.string T, .bool true]) ∧ Out [g] w w' := by
  have h37 : atB P 0 = 37 := by
    unfold partF at hp
    split at hp
    · assumption
    · cases hp
  have CPl := Lib.hid (fun (k : Nat) (W : World) (hk : k ≤ P.size) (r : Rdr W g P k) (h : k = P.size ∨ atB P k = 37) => plain_none P k g W hk (by omega) r h)
  have cPa := fun (W : World) (r : Rdr W g P 0) => part_any P 0 g W (by omega) (by omega) r
  unfold PartEnd at cPa
  rw [hp] at cPa
  have CPa := Lib.hid cPa
  have CN := Lib.hid hN
  have HT := Lib.hid hT
  have HR := Lib.hid hR
  have hgl := hR.lt
  have HGL := Lib.hid hgl
  have fb := Lib.fresh_isBuilder 234 5 w
  have hO := (Out.refl [g] w).alloc (.cells #[.pointer none, .slice none 0 0] 234)
  have r1 := hR.alloc (.cells #[.pointer none, .slice none 0 0] 234)
  obtain ⟨B, hB⟩ : ∃ B, w.heap.size = B := ⟨_, rfl⟩
  obtain ⟨W1, hW1⟩ : ∃ W1, w.alloc (.cells #[.pointer none, .slice none 0 0] 234) = W1 := ⟨_, rfl⟩
  rw [hW1] at fb hO r1
  rw [hB] at fb HGL
  have HB := Lib.hid hB
  have HW1 := Lib.hid hW1
  have HFB := Lib.hid fb
  have HO := Lib.hid hO
  have HR1 := Lib.hid (show Rdr W1 g P 0 from r1)
  have HH := Lib.hid h37
  have HC := Lib.hid hc
  clear hp cPa hN hT hR fb hO r1 hB hW1 h37 hc hgl
  go_enter Tryz.func125, Tryz.ntmps125
  go_wp2_with fail
  rw [HW1.out, HB.out]
  have hwB : w.heap.size ≤ B := Nat.le_of_eq HB.out
  refine (CPl.out 0 _ (by omega) HR1.out (Or.inr HH.out)).mono ?_
  rintro e W2 ⟨rfl, r2, o2⟩
  have b2 := isB_out HFB.out o2 HGL.out
  have HO2 := Lib.hid (HO.out.trans o2)
  have HR2 := Lib.hid r2
  have hl2 : B ≤ W2.heap.size := by have := HO2.out.size; have := HB.out; omega
  have CW := Lib.hid (write_any B B [] ⟨#[]⟩ W2 b2 (by decide) hl2)
  clear r2 o2 b2 HFB HO HR1
  go_wp2_with fail
  refine CW.out.mono ?_
  rintro e W3 ⟨rfl, b3, h3⟩
  have HB3 := Lib.hid (show Lib.IsBuilder 234 5 B B [] W3 from b3)
  have HR3 := Lib.hid (show Rdr W3 g P 0 from HR2.out.belowB h3 HGL.out)
  have HO3 := Lib.hid (HO2.out.then_below h3 hwB)
  clear b3 h3 CW HR2 HO2 hl2
  go_wp2_with fail
  go_loopw [7] (fun wv wr => (wv = .bool false ∧ Rdr wr g P 0 ∧ Lib.IsBuilder 234 5 B B [] wr ∧ Out [g] w wr) ∨ (wv = .bool true ∧ Rdr wr g P P.size ∧ Lib.IsBuilder 234 5 B B (Lib.strCells T) wr ∧ Out [g] w wr)) (fun wv _ => match wv with | .bool true => 0 | _ => 1)
  case atStart => exact Or.inl ⟨rfl, HR3.out, HB3.out, HO3.out⟩
  case round =>
    rcases hrel with ⟨rfl, rr, bb, oo⟩ | ⟨rfl, rr, bb, oo⟩
    · have c0 := rr.cell 0
      have c1 := rr.cell 1
      have HRr := Lib.hid rr
      have HBb := Lib.hid bb
      have HOo := Lib.hid oo
      have hps : (0 : Int) < (P.size : Int) := by omega
      clear rr bb oo HR3 HB3 HO3
      go_wp2_with fail
      go_quiet (fail)
      clear c0 c1
      have HRq := Lib.hid (show Rdr (wr.drewN nq) g P 0 from HRr.out.drew nq)
      have HOq := Lib.hid (HOo.out.drew nq)
      have HBq := Lib.hid (isB_out HBb.out ((Out.refl [g] wr).drew nq) HGL.out)
      obtain ⟨Wq, hWq⟩ : ∃ Wq, wr.drewN nq = Wq := ⟨_, rfl⟩
      rw [hWq] at HRq HOq HBq ⊢
      clear hWq HRr HBb HOo
      go_wp2_with fail
      refine (CPa.out _ HRq.out).mono ?_
      rintro e W4 ⟨rfl, r4, o4⟩
      have r4 := r4 _ rfl
      rw [show pcV ((some (⟨m, p, b, a, z, wd, pr, c, false, false, P.size⟩ : Pc)).getD pc0) = .agg #[.bool m, .bool p, .bool b, .bool a, .bool z, .int .i64 wd, .int .i64 pr, .int .u8 (c : Int), .bool false, .bool false, .int .i64 (P.size : Int)] from rfl]
      have HR5 := Lib.hid (show Rdr (W4.alloc (.cells #[.bool m, .bool p, .bool b, .bool a, .bool z, .int .i64 wd, .int .i64 pr, .int .u8 (c : Int), .bool false, .bool false, .int .i64 (P.size : Int)] 102)) g P P.size from Five.alloc r4 _)
      have HO5 := Lib.hid ((HOq.out.trans o4).alloc (.cells #[.bool m, .bool p, .bool b, .bool a, .bool z, .int .i64 wd, .int .i64 pr, .int .u8 (c : Int), .bool false, .bool false, .int .i64 (P.size : Int)] 102))
      have HB5 := Lib.hid (isB_out (isB_out HBq.out o4 HGL.out) ((Out.refl [g] W4).alloc (.cells #[.bool m, .bool p, .bool b, .bool a, .bool z, .int .i64 wd, .int .i64 pr, .int .u8 (c : Int), .bool false, .bool false, .int .i64 (P.size : Int)] 102)) HGL.out)
      obtain ⟨⟨e0, e1, e2, e3, e4, e5, e6, e7, e8, e9, e10⟩, -⟩ := (Five.new W4 #[.bool m, .bool p, .bool b, .bool a, .bool z, .int .i64 wd, .int .i64 pr, .int .u8 (c : Int), .bool false, .bool false, .int .i64 (P.size : Int)] 102).eleven
      have hcv : ((c : Int) == 37) = false := by rw [beq_eq_false_iff_ne]; have := HC.out; omega
      clear r4 o4 HRq HOq HBq
      go_wp2_with fail
      clear e0 e1 e2 e3 e4 e5 e6 e7 e8 e9 e10
      obtain ⟨W5, hW5⟩ : ∃ W5, W4.alloc (.cells #[.bool m, .bool p, .bool b, .bool a, .bool z, .int .i64 wd, .int .i64 pr, .int .u8 (c : Int), .bool false, .bool false, .int .i64 (P.size : Int)] 102) = W5 := ⟨_, rfl⟩
      rw [hW5] at HR5 HO5 HB5 ⊢
      clear hW5
      refine (CN.out _ (HT.out _ HO5.out)).mono ?_
      rintro e W6 ⟨rfl, h6⟩
      have HR6 := Lib.hid (show Rdr W6 g P P.size from Five.below HR5.out h6)
      have HO6 := Lib.hid (out_loop HO5.out h6)
      have b6 := isB_out HB5.out (Out.of_below (G := [g]) h6) HGL.out
      have hl6 : B ≤ W6.heap.size := by have := HO6.out.size; have := HB.out; omega
      have CW6 := Lib.hid (write_any B B [] T W6 b6 (by simp; omega) hl6)
      clear h6 b6 hl6 HR5 HO5 HB5
      go_wp2_with fail
      refine CW6.out.mono ?_
      rintro e W7 ⟨rfl, b7, h7⟩
      have HR7 := Lib.hid (show Rdr W7 g P P.size from HR6.out.belowB h7 HGL.out)
      have HO7 := Lib.hid (HO6.out.then_below h7 (Nat.le_of_eq HB.out))
      have HB7 := Lib.hid (show Lib.IsBuilder 234 5 B B (Lib.strCells T) W7 from b7)
      clear b7 h7 HR6 HO6 CW6
      go_wp2_with fail
      refine (CPl.out P.size _ (Nat.le_refl _) HR7.out (Or.inl rfl)).mono ?_
      rintro e W8 ⟨rfl, r8, o8⟩
      have HR8 := Lib.hid r8
      have HO8 := Lib.hid (HO7.out.trans o8)
      have b8 := isB_out HB7.out o8 HGL.out
      have hl8 : B ≤ W8.heap.size := by have := HO8.out.size; have := HB.out; omega
      have CW8 := Lib.hid (write_any B B (Lib.strCells T) ⟨#[]⟩ W8 b8 (by rw [Lib.strCells_length]; show T.size + 0 ≤ _; omega) hl8)
      clear r8 o8 b8 hl8 HR7 HO7 HB7
      go_wp2_with fail
      refine CW8.out.mono ?_
      rintro e W9 ⟨rfl, b9, h9⟩
      have HR9 := Lib.hid (show Rdr W9 g P P.size from HR8.out.belowB h9 HGL.out)
      have HO9 := Lib.hid (HO8.out.then_below h9 (Nat.le_of_eq HB.out))
      have HB9 := Lib.hid (show Lib.IsBuilder 234 5 B B (Lib.strCells T) W9 from by
        rw [show Lib.strCells (⟨#[]⟩ : ByteArray) = [] from rfl, List.append_nil] at b9
        exact b9)
      clear b9 h9 HR8 HO8 CW8
      go_wp2_with fail
      go_roundw
      case rel => exact Or.inr ⟨rfl, HR9.out, HB9.out, HO9.out⟩
      case measure => decide
    · have c0 := rr.cell 0
      have c1 := rr.cell 1
      have hnl : ¬ (P.size : Int) < (P.size : Int) := by omega
      have HBb := Lib.hid bb
      have HOo := Lib.hid oo
      clear rr bb oo HR3 HB3 HO3
      go_wp2_with fail
      go_quiet (fail)
      clear c0 c1
      have HOq := Lib.hid (HOo.out.drew nq)
      have bq := isB_out HBb.out ((Out.refl [g] wr).drew nq) HGL.out
      obtain ⟨Wq, hWq⟩ : ∃ Wq, wr.drewN nq = Wq := ⟨_, rfl⟩
      rw [hWq] at HOq bq ⊢
      have hlq : B ≤ Wq.heap.size := by have := HOq.out.size; have := HB.out; omega
      have cS := Tryz.Builder_String_any B B T.data.toList Wq bq hlq
      have hTT : (⟨T.data.toList.toArray⟩ : ByteArray) = T := by rw [← Lib.mk_data T]
      rw [hTT] at cS
      have CS := Lib.hid cS
      clear hWq HBb HOo bq hlq cS hTT
      go_wp2_with fail
      refine CS.out.mono ?_
      rintro e W9 ⟨rfl, h9⟩
      have HO9 := Lib.hid (HOq.out.then_below h9 (Nat.le_of_eq HB.out))
      clear h9
      go_wp2_with fail
      go_ret2
      exact ⟨rfl, HO9.out⟩
end Go.Proofs.YtbbbdcohkfijoaaGreatDoor

namespace Go.Proofs.YtbbbdcohkfijoaaGreatDoor
open Go.RowKit Go.Lib

set_option maxRecDepth 100000 in
set_option maxHeartbeats 4000000 in
theorem conv_whole (x : Nat) (P : ByteArray) (w : World) (hb : x < 18446744073709551616) (h : wholeB x 4846369599423283200 = true) (hT : PowTab w) :
    Calls Tryz.prog 71 #[.float .f64 x, .string P] w fun e w' => e = .returned (.string ⟨(wholeT x).toArray⟩) ∧ Below w.heap.size w w' := by
  have C := Lib.hid (whole_yes x w hb h hT)
  clear h hT
  go_enter Tryz.func71, Tryz.ntmps71
  go_wp2_with fail
  refine C.out.mono ?_
  rintro e w' ⟨rfl, hB⟩
  go_wp2_with fail
  go_ret
  exact ⟨rfl, hB⟩
set_option maxRecDepth 100000 in
set_option maxHeartbeats 4000000 in
theorem conv_odd (x : Nat) (P : ByteArray) (n : List UInt8) (w : World) (hb : x < 18446744073709551616) (h : wholeB x 4846369599423283200 = false) (ho : oddL x = some n) :
    Calls Tryz.prog 71 #[.float .f64 x, .string P] w fun e w' => e = .returned (.string ⟨n.toArray⟩) ∧ Below w.heap.size w w' := by
  have C := Lib.hid (whole_no x w hb h)
  have cO := fun W => boundless_any x W hb
  rw [ho] at cO
  replace cO : ∀ w : World, Calls Tryz.prog 74 #[.float .f64 x] w fun e w' => e = .returned (.tuple #[.string ⟨n.toArray⟩, .bool true]) ∧ w = w' := cO
  obtain ⟨N, hN⟩ : ∃ N : ByteArray, (⟨n.toArray⟩ : ByteArray) = N := ⟨_, rfl⟩
  rw [hN] at cO ⊢
  have CO := Lib.hid cO
  clear h ho cO hN
  go_enter Tryz.func71, Tryz.ntmps71
  go_wp2_with fail
  refine C.out.mono ?_
  rintro e w' ⟨rfl, rfl⟩
  go_wp2_with fail
  refine (CO.out _).mono ?_
  rintro e w' ⟨rfl, rfl⟩
  go_wp2_with fail
  go_ret
  exact ⟨rfl, Below.refl _ _⟩
set_option maxRecDepth 100000 in
set_option maxHeartbeats 4000000 in
theorem conv_one (P T : ByteArray) (x : Nat) (m p b a z : Bool) (wd pr : Int) (c : Nat) (w : World) (hb : x < 18446744073709551616) (hP : P.size ≤ 1000000) (hP0 : 0 < P.size) (hp : partF P 0 = some ⟨m, p, b, a, z, wd, pr, c, false, false, P.size⟩) (hc : c ≠ 37)
    (h : wholeB x 4846369599423283200 = false) (ho : oddL x = none)
    (hN : ∀ W, PowTab W → Calls Tryz.prog 25 #[.agg #[.bool m, .bool p, .bool b, .bool a, .bool z, .int .i64 wd, .int .i64 pr, .int .u8 (c : Int)], .float .f64 x] W fun e w' => e = .returned (.tuple #[.string T, .int .i64 0]) ∧ Below W.heap.size W w')
    (hTs : T.size ≤ 1000000) (hT : PowTab w) :
    Calls Tryz.prog 71 #[.float .f64 x, .string P] w fun e w' => e = .returned (.string T) ∧ Below w.heap.size w w' := by
  have C := Lib.hid (whole_no x w hb h)
  have cO := fun W => boundless_any x W hb
  rw [ho] at cO
  replace cO : ∀ w : World, Calls Tryz.prog 74 #[.float .f64 x] w fun e w' => e = .returned (.tuple #[.string ⟨#[]⟩, .bool false]) ∧ w = w' := cO
  have CO := Lib.hid cO
  have HTB := Lib.hid (Lib.tabBelow_of_tabIs hT)
  have fR := Five.new w #[.string P, .int .i64 0] 164
  have hbel := (Below.refl w.heap.size w).alloc (Nat.le_refl _) (.cells #[.string P, .int .i64 0] 164)
  have cF := filled_one P T w.heap.size x 0 m p b a z wd pr c (w.alloc (.cells #[.string P, .int .i64 0] 164)) hP hP0 hp hc fR hN hTs (fun W o => HTB.out W (hbel.trans (o.below (by simp) (by simp))))
  have CF := Lib.hid cF
  have HBEL := Lib.hid hbel
  clear cF cO hT fR hbel h ho hN hp
  go_enter Tryz.func71, Tryz.ntmps71
  go_wp2_with fail
  refine C.out.mono ?_
  rintro e w' ⟨rfl, rfl⟩
  go_wp2_with fail
  refine (CO.out _).mono ?_
  rintro e w' ⟨rfl, rfl⟩
  go_wp2_with fail
  refine CF.out.mono ?_
  rintro e w2 ⟨rfl, o2⟩
  have hBf := HBEL.out.trans (o2.below (by simp) (by simp))
  clear o2
  go_wp2_with fail
  go_ret
  exact ⟨rfl, hBf⟩
/-- %.6g, %.3f, %.17g -/
abbrev p6g : ByteArray := ⟨#[37, 46, 54, 103]⟩
theorem part_6g : partF p6g 0 = some ⟨false, false, false, false, false, 0, 6, 103, false, false, 4⟩ := by rfl
theorem cap_len (c : Nat) (l : List UInt8) : (capL c l).length = l.length := by
  unfold capL
  split
  · exact upper_len l
  · rfl
theorem pointT_len (w : World) {m p b a z : Bool} {wd pr : Int} {c x : Nat} (h : mag x < 9218868437227405312) (h0 : 0 ≤ wd) (h1 : wd ≤ 1024) (h2 : -1 ≤ pr) (h3 : pr ≤ 190) : (pointT m p b a z wd pr c x).length ≤ 100000 := by
  unfold pointT laidL fillL
  have h4 := len_ptD w h h2 h3 a c
  have h5 := sgn_len p b c (sbB x)
  have h6 := cap_len c (ptD (mag x) pr a c)
  split
  · simp only [List.length_append, List.length_replicate, List.length_nil]
    omega
  · split
    · simp only [List.length_append, List.length_replicate, List.length_nil]
      omega
    · simp only [List.length_append, List.length_replicate, List.length_nil]
      omega
theorem conv_pt (P : ByteArray) (x k : Nat) (pr : Int) (c : Nat) (w : World) (hb : x < 18446744073709551616) (hm : mag x < 9218868437227405312) (hP : P.size = k) (hk : k ≤ 100) (hk0 : 0 < k) (hp : partF P 0 = some ⟨false, false, false, false, false, 0, pr, c, false, false, k⟩) (hc : chkB 0 pr c = true) (hv : vNum.contains c.toUInt8 = true) (hw : vWhole.contains c.toUInt8 = false) (hc2 : c ≠ 37)
    (h : wholeB x 4846369599423283200 = false) (hT : PowTab w) :
    Calls Tryz.prog 71 #[.float .f64 x, .string P] w fun e w' => e = .returned (.string ⟨(pointT false false false false false 0 pr c x).toArray⟩) ∧ Below w.heap.size w w' := by
  subst hP
  obtain ⟨d0, d1, d2, d3⟩ := chk_bd hc
  have hlen : (pointT false false false false false 0 pr c x).length ≤ 100000 := pointT_len w hm d0 d1 d2 d3
  exact conv_one P _ x false false false false false 0 pr c w hb (by omega) hk0 hp hc2 h (odd_none hm) (fun W hW => number_point false false false false false 0 pr c x W hb hm hc hv hw hW) (by rw [← ba_len]; exact Nat.le_trans hlen (by omega)) hT
/-- What Conv answers by "%.6g". -/
noncomputable def conv6 (x : Nat) : List UInt8 := if wholeB x 4846369599423283200 = true then wholeT x else match oddL x with
  | some n => n
  | none => pointT false false false false false 0 6 103 x
theorem mag_odd {x : Nat} (hb : x < 18446744073709551616) (h : oddL x = none) : mag x < 9218868437227405312 := by
  rcases Nat.lt_or_ge (mag x) 9218868437227405312 with h1 | h1
  · exact h1
  · exfalso
    unfold oddL at h
    rcases Nat.lt_or_ge 9218868437227405312 (mag x) with h2 | h2
    · rw [nan_yes h2, if_pos rfl] at h
      cases h
    · rw [nan_no (by omega), if_neg (by decide)] at h
      have e : x = 9218868437227405312 ∨ x = 18442240474082181120 := by unfold mag at h1 h2; omega
      rcases e with rfl | rfl
      · exact absurd h (by decide)
      · exact absurd h (by decide)
theorem conv_6g (x : Nat) (w : World) (hb : x < 18446744073709551616) (hT : PowTab w) :
    Calls Tryz.prog 71 #[.float .f64 x, .string p6g] w fun e w' => e = .returned (.string ⟨(conv6 x).toArray⟩) ∧ Below w.heap.size w w' := by
  unfold conv6
  cases hw : wholeB x 4846369599423283200 with
  | true => rw [if_pos rfl]; exact conv_whole x _ w hb hw hT
  | false =>
    rw [if_neg (by decide)]
    cases ho : oddL x with
    | some n => exact conv_odd x _ n w hb hw ho
    | none => exact conv_pt p6g x 4 6 103 w hb (mag_odd hb ho) rfl (by omega) (by omega) part_6g (by decide) (by decide) (by decide) (by decide) hw hT
end Go.Proofs.YtbbbdcohkfijoaaGreatDoor

namespace Go.Proofs.YtbbbdcohkfijoaaGreatDoor
open Go.RowKit Go.Lib

theorem f7 : fw 7 = 4619567317775286272 := by decide +kernel
theorem f3 : fw 3 = 4613937818241073152 := by decide +kernel
theorem f1 : fw 1 = 4607182418800017408 := by decide +kernel
end Go.Proofs.YtbbbdcohkfijoaaGreatDoor

namespace Go.Proofs.YtbbbdcohkfijoaaGreatDoor
open Go.RowKit Go.Lib

set_option maxRecDepth 100000 in
theorem clone_str (s : ByteArray) (w : World) (hs : s.size ≤ 140737488355328) : Calls Tryz.prog 123 #[.string s] w fun e w' => e = .returned (.string s) ∧ Below w.heap.size w w' := by
  have C := Lib.hid (Tryz.stringslite_Clone s w (by omega))
  go_enter Tryz.func123, Tryz.ntmps123
  go_wp2_with fail
  refine C.out.mono ?_
  rintro e w' ⟨rfl, hB⟩
  go_wp2_with fail
  go_ret
  exact ⟨rfl, hB⟩
theorem run_store_float (a : Addr) (n : Nat) (m : Mode) (w : World) : (store a (.float .f64 n) m).run Tryz.prog w = stored Tryz.prog w a (.float .f64 n) m := run_store _ w a _ m rfl
set_option maxRecDepth 100000 in
theorem cOf_any (x : Nat) (w : World) : Calls Tryz.prog 82 #[.float .f64 x] w fun e w' => e = .returned (.agg #[.int .i64 1, .float .f64 x, .string ⟨#[]⟩]) ∧ Below w.heap.size w w' := by
  have F := Lib.hid (Five.new w #[.int .i64 0, .float .f64 0, .string ⟨#[]⟩] 48)
  have HB := Lib.hid ((Below.refl w.heap.size w).alloc (Nat.le_refl _) (.cells #[.int .i64 0, .float .f64 0, .string ⟨#[]⟩] 48))
  obtain ⟨q0, q1, q2, r0, r1, r2⟩ := F.out.three
  have hst := run_store_float
  go_enter Tryz.func82, Tryz.ntmps82
  go_wp2_with fail
  exact bodyPost_ret (v := .agg #[.int .i64 1, .float .f64 x, .string ⟨#[]⟩]) (by simp [results, Tryz.results82, go_sem]) rfl ⟨rfl, (Below.refl w.heap.size w).alloc (Nat.le_refl _) _⟩
/-- The float nearest to a fraction. -/
noncomputable def nearR (X D : Nat) : Nat := @dite _ (∃ r, Near X D r) (Classical.propDecidable _) (fun h => Classical.choose h) (fun _ => 0)
theorem nearR_of {X D r : Nat} (hD : 0 < D) (h : Near X D r) : nearR X D = r := by
  unfold nearR
  have he : ∃ r, Near X D r := ⟨r, h⟩
  rw [dif_pos he]
  exact (Classical.choose_spec he).uniq hD hD rfl h
/-- The number that a text begins with. -/
noncomputable def preN (l : List UInt8) : Nat := turned (sigL l).1 (nearR (2 * (pv ((sigL l).2.1 ++ (sigL l).2.2.1) * 10 ^ ((sigL l).2.2.2.1 - ((sigL l).2.2.1.length : Int)).toNat) * S1074) (10 ^ (-((sigL l).2.2.2.1 - ((sigL l).2.2.1.length : Int))).toNat))
theorem prefix_val (s : ByteArray) (w : World) (hs : s.size ≤ 140737488355328) : Calls Tryz.prog 52 #[.string s] w fun e w' => e = .returned (.tuple #[.float .f64 (preN s.data.toList), .int .i64 (sigL s.data.toList).2.2.2.2]) ∧ Below w.heap.size w w' := by
  obtain ⟨b, X1, X2, xe, z, hX⟩ : ∃ b X1 X2 xe z, sigL s.data.toList = (b, X1, X2, xe, z) := ⟨_, _, _, _, _, rfl⟩
  refine (prefix_any s w hs b X1 X2 xe z hX).mono ?_
  rintro e w' ⟨r, rfl, hN, hB⟩
  refine ⟨?_, hB⟩
  unfold preN
  rw [hX]
  simp only
  rw [nearR_of (Nat.pow_pos (by omega)) hN.out]
end Go.Proofs.YtbbbdcohkfijoaaGreatDoor

namespace Go.Proofs.YtbbbdcohkfijoaaGreatDoor
open Go.RowKit Go.Lib

/-- A value as a number. -/
noncomputable def numV2 (k : Int) (n : Nat) (s : ByteArray) : Nat := if k = 1 ∨ k = 3 then n else if k = 2 then preN s.data.toList else 0
set_option maxRecDepth 100000 in
set_option maxHeartbeats 4000000 in
theorem cNumber_any (k : Int) (n : Nat) (s : ByteArray) (w : World) (hs : s.size ≤ 140737488355328) : Calls Tryz.prog 84 #[.agg #[.int .i64 k, .float .f64 n, .string s]] w fun e w' => e = .returned (.float .f64 (numV2 k n s)) ∧ Below w.heap.size w w' := by
  have cP := fun W => prefix_val s W hs
  have F := Five.new w #[.int .i64 k, .float .f64 n, .string s] 48
  have hb := (Below.refl w.heap.size w).alloc (Nat.le_refl _) (.cells #[.int .i64 k, .float .f64 n, .string s] 48)
  unfold numV2
  obtain ⟨x, hx⟩ : ∃ x, preN s.data.toList = x := ⟨_, rfl⟩
  obtain ⟨zz, hzz⟩ : ∃ zz, (sigL s.data.toList).2.2.2.2 = zz := ⟨_, rfl⟩
  rw [hx, hzz] at cP
  rw [hx]
  obtain ⟨y, hy⟩ : ∃ y, (if k = 1 ∨ k = 3 then n else if k = 2 then x else 0) = y := ⟨_, rfl⟩
  rw [hy]
  have HY := Lib.hid hy
  have CP := Lib.hid cP
  have HB := Lib.hid hb
  clear cP hx hzz hy hb F
  have hcase : k = 1 ∨ k = 3 ∨ k = 2 ∨ (k ≠ 1 ∧ k ≠ 3 ∧ k ≠ 2) := by omega
  rcases hcase with rfl | rfl | rfl | ⟨h1, h2, h3⟩
  · go_enter Tryz.func84, Tryz.ntmps84
    go_wp2_with fail
    go_ret
    exact ⟨by rw [← HY.out]; rfl, HB.out⟩
  · go_enter Tryz.func84, Tryz.ntmps84
    go_wp2_with fail
    go_ret
    exact ⟨by rw [← HY.out]; rfl, HB.out⟩
  · go_enter Tryz.func84, Tryz.ntmps84
    go_wp2_with fail
    refine (CP.out _).mono ?_
    rintro e W2 ⟨rfl, h2⟩
    have hBf := HB.out.trans (h2.mono HB.out.size)
    clear h2
    go_wp2_with fail
    go_ret
    exact ⟨by rw [← HY.out]; rfl, hBf⟩
  · have v1 : (k == 1) = false := by rw [beq_eq_false_iff_ne]; exact h1
    have v2 : (k == 3) = false := by rw [beq_eq_false_iff_ne]; exact h2
    have v3 : (k == 2) = false := by rw [beq_eq_false_iff_ne]; exact h3
    have hy0 : y = 0 := by rw [← HY.out, if_neg (by omega), if_neg h3]
    clear h1 h2 h3
    go_enter Tryz.func84, Tryz.ntmps84
    go_wp2_with fail
    go_ret
    exact ⟨by first | rfl | (rw [hy0]; rfl), HB.out⟩
end Go.Proofs.YtbbbdcohkfijoaaGreatDoor

namespace Go.Proofs.YtbbbdcohkfijoaaGreatDoor
open Go.RowKit Go.Lib

set_option maxRecDepth 100000 in
set_option maxHeartbeats 4000000 in
theorem written_str (k : Int) (n : Nat) (s P : ByteArray) (w : World) (h : k = 2 ∨ k = 3) : Calls Tryz.prog 88 #[.agg #[.int .i64 k, .float .f64 n, .string s], .string P] w fun e w' => e = .returned (.string s) ∧ Below w.heap.size w w' := by
  have hb := (Below.refl w.heap.size w).alloc (Nat.le_refl _) (.cells #[.int .i64 k, .float .f64 n, .string s] 48)
  have HB := Lib.hid hb
  clear hb
  rcases h with rfl | rfl
  all_goals
    go_enter Tryz.func88, Tryz.ntmps88
    go_wp2_with fail
    go_ret
    exact ⟨rfl, HB.out⟩
set_option maxRecDepth 100000 in
set_option maxHeartbeats 4000000 in
theorem written_none (k : Int) (n : Nat) (s P : ByteArray) (w : World) (h1 : k ≠ 1) (h2 : k ≠ 2) (h3 : k ≠ 3) : Calls Tryz.prog 88 #[.agg #[.int .i64 k, .float .f64 n, .string s], .string P] w fun e w' => e = .returned (.string ⟨#[]⟩) ∧ Below w.heap.size w w' := by
  have hb := (Below.refl w.heap.size w).alloc (Nat.le_refl _) (.cells #[.int .i64 k, .float .f64 n, .string s] 48)
  have HB := Lib.hid hb
  have v1 : (k == 1) = false := by rw [beq_eq_false_iff_ne]; exact h1
  have v2 : (k == 3) = false := by rw [beq_eq_false_iff_ne]; exact h3
  have v3 : (k == 2) = false := by rw [beq_eq_false_iff_ne]; exact h2
  clear hb h1 h2 h3
  go_enter Tryz.func88, Tryz.ntmps88
  go_wp2_with fail
  go_ret
  exact ⟨rfl, HB.out⟩
set_option maxRecDepth 100000 in
set_option maxHeartbeats 4000000 in
theorem written_num (n : Nat) (s P T : ByteArray) (w : World) (hC : ∀ W, PowTab W → Calls Tryz.prog 71 #[.float .f64 n, .string P] W fun e w' => e = .returned (.string T) ∧ Below W.heap.size W w') (hT : PowTab w) : Calls Tryz.prog 88 #[.agg #[.int .i64 1, .float .f64 n, .string s], .string P] w fun e w' => e = .returned (.string T) ∧ Below w.heap.size w w' := by
  have hb := (Below.refl w.heap.size w).alloc (Nat.le_refl _) (.cells #[.int .i64 1, .float .f64 n, .string s] 48)
  have C := Lib.hid (hC _ (Lib.tabBelow_of_tabIs hT _ hb))
  have HB := Lib.hid hb
  clear hb hC hT
  go_enter Tryz.func88, Tryz.ntmps88
  go_wp2_with fail
  refine C.out.mono ?_
  rintro e W2 ⟨rfl, h2⟩
  have hBf := HB.out.trans (h2.mono HB.out.size)
  clear h2
  go_wp2_with fail
  go_ret
  exact ⟨rfl, hBf⟩
/-- A value as a string, by a pattern that makes T of its number. -/
def wrT (k : Int) (s T : ByteArray) : ByteArray := if k = 1 then T else if k = 2 ∨ k = 3 then s else ⟨#[]⟩
theorem written_any (k : Int) (n : Nat) (s P T : ByteArray) (w : World) (hC : k = 1 → ∀ W, PowTab W → Calls Tryz.prog 71 #[.float .f64 n, .string P] W fun e w' => e = .returned (.string T) ∧ Below W.heap.size W w') (hT : PowTab w) : Calls Tryz.prog 88 #[.agg #[.int .i64 k, .float .f64 n, .string s], .string P] w fun e w' => e = .returned (.string (wrT k s T)) ∧ Below w.heap.size w w' := by
  unfold wrT
  by_cases h1 : k = 1
  · subst h1
    rw [if_pos rfl]
    exact written_num n s P T w (hC rfl) hT
  · rw [if_neg h1]
    by_cases h2 : k = 2 ∨ k = 3
    · rw [if_pos h2]
      exact written_str k n s P w h2
    · rw [if_neg h2]
      exact written_none k n s P w h1 (by omega) (by omega)
set_option maxRecDepth 100000 in
set_option maxHeartbeats 4000000 in
theorem cString_any (k : Int) (n : Nat) (s P T : ByteArray) (w : World) (hC : k = 1 → ∀ W, PowTab W → Calls Tryz.prog 71 #[.float .f64 n, .string P] W fun e w' => e = .returned (.string T) ∧ Below W.heap.size W w') (hT : PowTab w) (hs : (wrT k s T).size ≤ 140737488355328) : Calls Tryz.prog 83 #[.agg #[.int .i64 k, .float .f64 n, .string s], .string P] w fun e w' => e = .returned (.string (wrT k s T)) ∧ Below w.heap.size w w' := by
  have C := Lib.hid (fun (W : World) (hW : PowTab W) => written_any k n s P T W hC hW)
  have CC := Lib.hid (fun W => clone_str (wrT k s T) W hs)
  have HT := Lib.hid (Lib.tabBelow_of_tabIs hT)
  obtain ⟨X, hX⟩ : ∃ X, wrT k s T = X := ⟨_, rfl⟩
  have C := C.out
  have CC := CC.out
  rw [hX] at C CC ⊢
  have C := Lib.hid C
  have CC := Lib.hid CC
  clear hX hC hT hs
  have HB := Lib.hid ((Below.refl w.heap.size w).alloc (Nat.le_refl _) (.cells #[.int .i64 k, .float .f64 n, .string s] 48))
  go_enter Tryz.func83, Tryz.ntmps83
  go_wp2_with fail
  refine (C.out _ (HT.out _ HB.out)).mono ?_
  rintro e W2 ⟨rfl, h2⟩
  have hB2 := HB.out.trans (h2.mono HB.out.size)
  clear h2
  go_wp2_with fail
  refine (CC.out _).mono ?_
  rintro e W3 ⟨rfl, h3⟩
  have hB3 := hB2.trans (h3.mono hB2.size)
  clear h3 hB2
  go_wp2_with fail
  go_ret
  exact ⟨rfl, hB3⟩
/-- Numbers in order, NaN behind all others. -/
def rkB (x : Nat) : Int := if nanB x = true then 1 else 0
def ltB (x y : Nat) : Bool := FloatKind.f64.format.order x y == some .lt
def gtB (x y : Nat) : Bool := FloatKind.f64.format.order x y == some .gt
def cmpN (x y : Nat) : Int := if ltB x y = true then -1 else if gtB x y = true then 1 else rkB x - rkB y
set_option maxRecDepth 100000 in
theorem rank_any (x : Nat) (w : World) : Calls Tryz.prog 139 #[.float .f64 x] w fun e w' => e = .returned (.int .i64 (rkB x)) ∧ w = w' := by
  have cN := fun W => isNaN_any x W
  unfold rkB
  generalize nanB x = v at *
  have CN := Lib.hid cN
  clear cN
  cases v with
  | true =>
    go_enter Tryz.func139, Tryz.ntmps139
    go_wp2_with fail
    refine (CN.out _).mono ?_
    rintro e w' ⟨rfl, rfl⟩
    go_wp2_with fail
    go_ret
    exact ⟨rfl, rfl⟩
  | false =>
    go_enter Tryz.func139, Tryz.ntmps139
    go_wp2_with fail
    refine (CN.out _).mono ?_
    rintro e w' ⟨rfl, rfl⟩
    go_wp2_with fail
    go_ret
    exact ⟨rfl, rfl⟩
set_option maxRecDepth 100000 in
set_option maxHeartbeats 4000000 in
theorem cmpNum_any (x y : Nat) (w : World) : Calls Tryz.prog 86 #[.float .f64 x, .float .f64 y] w fun e w' => e = .returned (.int .i64 (cmpN x y)) ∧ w = w' := by
  have C1 := Lib.hid (fun W => rank_any x W)
  have C2 := Lib.hid (fun W => rank_any y W)
  have hr1 : 0 ≤ rkB x ∧ rkB x ≤ 1 := by unfold rkB; split <;> omega
  have hr2 : 0 ≤ rkB y ∧ rkB y ≤ 1 := by unfold rkB; split <;> omega
  obtain ⟨a, ha⟩ : ∃ a, rkB x = a := ⟨_, rfl⟩
  obtain ⟨b, hb⟩ : ∃ b, rkB y = b := ⟨_, rfl⟩
  have C1 := C1.out
  have C2 := C2.out
  rw [ha] at C1 hr1
  rw [hb] at C2 hr2
  have C1 := Lib.hid C1
  have C2 := Lib.hid C2
  obtain ⟨c, hc⟩ : ∃ c, cmpN x y = c := ⟨_, rfl⟩
  rw [hc]
  unfold cmpN at hc
  rw [ha, hb] at hc
  obtain ⟨v, hv⟩ : ∃ v, ltB x y = v := ⟨_, rfl⟩
  obtain ⟨u, hu⟩ : ∃ u, gtB x y = u := ⟨_, rfl⟩
  rw [hv, hu] at hc
  have hv2 : (FloatKind.f64.format.order x y == some .lt) = v := hv
  have hu2 : (FloatKind.f64.format.order x y == some .gt) = u := hu
  have HC := Lib.hid hc
  obtain ⟨hr1a, hr1b⟩ := hr1
  obtain ⟨hr2a, hr2b⟩ := hr2
  have hwr : IntKind.i64.wrap (a - b) = a - b := by rw [IntKind.wrap_i64]; omega
  have hwr2 : wrap64 (a - b) = a - b := by unfold wrap64; omega
  clear ha hb hc hv hu
  cases v with
  | true =>
    go_enter Tryz.func86, Tryz.ntmps86
    go_wp2_with fail
    go_ret
    exact ⟨by rw [← HC.out]; rfl, rfl⟩
  | false =>
    cases u with
    | true =>
      go_enter Tryz.func86, Tryz.ntmps86
      go_wp2_with fail
      go_ret
      exact ⟨by rw [← HC.out]; rfl, rfl⟩
    | false =>
      go_enter Tryz.func86, Tryz.ntmps86
      go_wp2_with fail
      refine (C1.out _).mono ?_
      rintro e w' ⟨rfl, rfl⟩
      go_wp2_with fail
      refine (C2.out _).mono ?_
      rintro e w' ⟨rfl, rfl⟩
      go_wp2_with fail
      go_ret
      exact ⟨by rw [← HC.out]; rfl, rfl⟩
set_option maxRecDepth 100000 in
set_option maxHeartbeats 8000000 in
theorem cCompare_num (ka kb : Int) (x y : Nat) (s t P : ByteArray) (w : World) (ha : ka ≠ 2) (hb : kb ≠ 2) (hs : s.size ≤ 140737488355328) (ht : t.size ≤ 140737488355328) :
    Calls Tryz.prog 31 #[.agg #[.int .i64 ka, .float .f64 x, .string s], .agg #[.int .i64 kb, .float .f64 y, .string t], .string P] w fun e w' => e = .returned (.int .i64 (cmpN (numV2 ka x s) (numV2 kb y t))) ∧ Below w.heap.size w w' := by
  have v1 : (ka != 2) = true := by rw [bne_iff_ne]; exact ha
  have v2 : (kb != 2) = true := by rw [bne_iff_ne]; exact hb
  have v3 : (ka == 2) = false := by rw [beq_eq_false_iff_ne]; exact ha
  have v4 : (kb == 2) = false := by rw [beq_eq_false_iff_ne]; exact hb
  have CA := Lib.hid (fun W => cNumber_any ka x s W hs)
  have CB := Lib.hid (fun W => cNumber_any kb y t W ht)
  have CC := Lib.hid (fun W => cmpNum_any (numV2 ka x s) (numV2 kb y t) W)
  have fA := (Five.new w #[.int .i64 ka, .float .f64 x, .string s] 48).alloc (.cells #[.int .i64 kb, .float .f64 y, .string t] 48)
  have fB := Five.new (w.alloc (.cells #[.int .i64 ka, .float .f64 x, .string s] 48)) #[.int .i64 kb, .float .f64 y, .string t] 48
  have hB0 := ((Below.refl w.heap.size w).alloc (Nat.le_refl _) (.cells #[.int .i64 ka, .float .f64 x, .string s] 48)).alloc (by simp) (.cells #[.int .i64 kb, .float .f64 y, .string t] 48)
  rw [World.size_alloc] at fB
  obtain ⟨B, hB⟩ : ∃ B, w.heap.size = B := ⟨_, rfl⟩
  obtain ⟨W2, hW2⟩ : ∃ W2, (w.alloc (.cells #[.int .i64 ka, .float .f64 x, .string s] 48)).alloc (.cells #[.int .i64 kb, .float .f64 y, .string t] 48) = W2 := ⟨_, rfl⟩
  rw [hW2] at fA fB hB0
  rw [hB] at fA fB hB0 ⊢
  have HB := Lib.hid hB
  have HW2 := Lib.hid hW2
  have hle : B ≤ W2.heap.size := Nat.le_of_lt fA.lt
  have FA := Lib.hid fA
  have FB := Lib.hid fB
  have HB0 := Lib.hid hB0
  have HCW := Lib.hid (fun (W : World) (h : Below W2.heap.size W2 W) => (show W.cell? ⟨B, 0, none⟩ = some (.int .i64 ka) ∧ W.cell? ⟨B, 1, none⟩ = some (.float .f64 x) ∧ W.cell? ⟨B, 2, none⟩ = some (.string s) ∧ W.cell? ⟨B + 1, 0, none⟩ = some (.int .i64 kb) ∧ W.cell? ⟨B + 1, 1, none⟩ = some (.float .f64 y) ∧ W.cell? ⟨B + 1, 2, none⟩ = some (.string t) from ⟨(FA.out.below h).cell 0, (FA.out.below h).cell 1, (FA.out.below h).cell 2, (FB.out.below h).cell 0, (FB.out.below h).cell 1, (FB.out.below h).cell 2⟩))
  obtain ⟨a0, a1, a2, b0, b1, b2⟩ := HCW.out W2 (Below.refl _ _)
  clear ha hb hB hW2 fA fB hB0
  go_enter Tryz.func31, Tryz.ntmps31
  go_wp2_with fail
  rw [HW2.out, HB.out]
  go_region_held3 (fun w' => w'.cell? ⟨B, 0, none⟩ = some (.int .i64 ka) ∧ w'.cell? ⟨B, 1, none⟩ = some (.float .f64 x) ∧ w'.cell? ⟨B, 2, none⟩ = some (.string s) ∧ w'.cell? ⟨B + 1, 0, none⟩ = some (.int .i64 kb) ∧ w'.cell? ⟨B + 1, 1, none⟩ = some (.float .f64 y) ∧ w'.cell? ⟨B + 1, 2, none⟩ = some (.string t))
    (first | (with_reducible exact S3) | (with_reducible exact S2) | (with_reducible exact S1) | go_keep)
    (first
    | (go_at_call 84; (with_reducible refine (CA.out _).mono ?_); rintro e W3 ⟨rfl, h3⟩; have b3 : Below W2.heap.size W2 W3 := ⟨h3.os, h3.tape, h3.output, h3.size, h3.block⟩; have S1 := HCW.out _ b3; clear h3)
    | (go_at_call 84; (with_reducible refine (CB.out _).mono ?_); rintro e W4 ⟨rfl, h4⟩; have b4 : Below W2.heap.size W2 W4 := b3.trans ((⟨h4.os, h4.tape, h4.output, h4.size, h4.block⟩ : Below W3.heap.size W3 W4).mono b3.size); have S2 := HCW.out _ b4; clear h4)
    | (go_at_call 86; (with_reducible refine (CC.out _).mono ?_); rintro e w' ⟨rfl, rfl⟩))
  all_goals
    have hBf := HB0.out.trans (b4.mono hle)
    go_wp2_with fail
    go_ret
    exact ⟨rfl, by first | exact hBf | exact ⟨hBf.os, hBf.tape, hBf.output, hBf.size, hBf.block⟩⟩
end Go.Proofs.YtbbbdcohkfijoaaGreatDoor

namespace Go.Proofs.YtbbbdcohkfijoaaGreatDoor
open Go.RowKit Go.Lib

set_option maxRecDepth 100000 in
set_option maxHeartbeats 8000000 in
theorem cCompare_str (ka kb : Int) (x y : Nat) (s t P TA TB : ByteArray) (w : World) (hab : ka = 2 ∨ (ka ≠ 2 ∧ kb = 2)) (hTA : ka = 1 → ∀ W, PowTab W → Calls Tryz.prog 71 #[.float .f64 x, .string P] W fun e w' => e = .returned (.string TA) ∧ Below W.heap.size W w') (hTB : kb = 1 → ∀ W, PowTab W → Calls Tryz.prog 71 #[.float .f64 y, .string P] W fun e w' => e = .returned (.string TB) ∧ Below W.heap.size W w') (hT : PowTab w) :
    Calls Tryz.prog 31 #[.agg #[.int .i64 ka, .float .f64 x, .string s], .agg #[.int .i64 kb, .float .f64 y, .string t], .string P] w fun e w' => e = .returned (.int .i64 (Lib.compareBytes (wrT ka s TA).data.toList (wrT kb t TB).data.toList)) ∧ Below w.heap.size w w' := by
  have CA := Lib.hid (fun (W : World) (hW : PowTab W) => written_any ka x s P TA W hTA hW)
  have CB := Lib.hid (fun (W : World) (hW : PowTab W) => written_any kb y t P TB W hTB hW)
  have CC := Lib.hid (fun W => Tryz.strings_Compare (wrT ka s TA) (wrT kb t TB) W)
  have HT := Lib.hid (Lib.tabBelow_of_tabIs hT)
  have fA := (Five.new w #[.int .i64 ka, .float .f64 x, .string s] 48).alloc (.cells #[.int .i64 kb, .float .f64 y, .string t] 48)
  have fB := Five.new (w.alloc (.cells #[.int .i64 ka, .float .f64 x, .string s] 48)) #[.int .i64 kb, .float .f64 y, .string t] 48
  have hB0 := ((Below.refl w.heap.size w).alloc (Nat.le_refl _) (.cells #[.int .i64 ka, .float .f64 x, .string s] 48)).alloc (by simp) (.cells #[.int .i64 kb, .float .f64 y, .string t] 48)
  rw [World.size_alloc] at fB
  obtain ⟨B, hB⟩ : ∃ B, w.heap.size = B := ⟨_, rfl⟩
  obtain ⟨W2, hW2⟩ : ∃ W2, (w.alloc (.cells #[.int .i64 ka, .float .f64 x, .string s] 48)).alloc (.cells #[.int .i64 kb, .float .f64 y, .string t] 48) = W2 := ⟨_, rfl⟩
  rw [hW2] at fA fB hB0
  rw [hB] at fA fB hB0 ⊢
  have HB := Lib.hid hB
  have HW2 := Lib.hid hW2
  have hle : B ≤ W2.heap.size := Nat.le_of_lt fA.lt
  have FA := Lib.hid fA
  have FB := Lib.hid fB
  have HB0 := Lib.hid hB0
  have HCW := Lib.hid (fun (W : World) (h : Below W2.heap.size W2 W) => (show W.cell? ⟨B, 0, none⟩ = some (.int .i64 ka) ∧ W.cell? ⟨B, 1, none⟩ = some (.float .f64 x) ∧ W.cell? ⟨B, 2, none⟩ = some (.string s) ∧ W.cell? ⟨B + 1, 0, none⟩ = some (.int .i64 kb) ∧ W.cell? ⟨B + 1, 1, none⟩ = some (.float .f64 y) ∧ W.cell? ⟨B + 1, 2, none⟩ = some (.string t) from ⟨(FA.out.below h).cell 0, (FA.out.below h).cell 1, (FA.out.below h).cell 2, (FB.out.below h).cell 0, (FB.out.below h).cell 1, (FB.out.below h).cell 2⟩))
  obtain ⟨a0, a1, a2, b0, b1, b2⟩ := HCW.out W2 (Below.refl _ _)
  have hTW := fun (W : World) (h : Below W2.heap.size W2 W) => HT.out W (by rw [hB]; exact hB0.trans (h.mono hle))
  have HTW := Lib.hid hTW
  clear hB hW2 fA fB hB0 hTA hTB hT hTW
  obtain ⟨XA, hXA⟩ : ∃ XA, wrT ka s TA = XA := ⟨_, rfl⟩
  obtain ⟨XB, hXB⟩ : ∃ XB, wrT kb t TB = XB := ⟨_, rfl⟩
  rw [hXA, hXB] at CC ⊢
  rw [hXA] at CA
  rw [hXB] at CB
  obtain ⟨R, hR2⟩ : ∃ R, Lib.compareBytes XA.data.toList XB.data.toList = R := ⟨_, rfl⟩
  rw [hR2] at CC ⊢
  clear hR2 hXA hXB
  have hR := Below.refl W2.heap.size W2
  have hcase : (ka = 2) ∨ ((ka != 2) = true ∧ (ka == 2) = false ∧ kb = 2) := by
    rcases hab with h | ⟨h1, h2⟩
    · exact Or.inl h
    · exact Or.inr ⟨by rw [bne_iff_ne]; exact h1, by rw [beq_eq_false_iff_ne]; exact h1, h2⟩
  clear hab
  rcases hcase with rfl | ⟨v1, v2, rfl⟩
  · go_enter Tryz.func31, Tryz.ntmps31
    go_wp2_with fail
    rw [HW2.out, HB.out]
    go_region_held3 (fun w' => w'.cell? ⟨B, 0, none⟩ = some (.int .i64 2) ∧ w'.cell? ⟨B, 1, none⟩ = some (.float .f64 x) ∧ w'.cell? ⟨B, 2, none⟩ = some (.string s) ∧ w'.cell? ⟨B + 1, 0, none⟩ = some (.int .i64 kb) ∧ w'.cell? ⟨B + 1, 1, none⟩ = some (.float .f64 y) ∧ w'.cell? ⟨B + 1, 2, none⟩ = some (.string t))
      (first | (with_reducible exact S3) | (with_reducible exact S2) | (with_reducible exact S1) | go_keep)
      (first
      | (go_at_call 88; (with_reducible refine (CA.out _ (HTW.out _ (by first | exact hR | exact hR.drew | exact below_drewN hR _))).mono ?_); rintro e W3 ⟨rfl, h3⟩; have b3 : Below W2.heap.size W2 W3 := ⟨h3.os, h3.tape, h3.output, h3.size, h3.block⟩; have S1 := HCW.out _ b3; clear h3)
      | (go_at_call 88; (with_reducible refine (CB.out _ (HTW.out _ (by first | exact b3 | exact b3.drew | exact below_drewN b3 _))).mono ?_); rintro e W4 ⟨rfl, h4⟩; have b4 : Below W2.heap.size W2 W4 := b3.trans ((⟨h4.os, h4.tape, h4.output, h4.size, h4.block⟩ : Below W3.heap.size W3 W4).mono b3.size); have S2 := HCW.out _ b4; clear h4)
      | (go_at_call 87; (with_reducible refine (CC.out _).mono ?_); rintro e w' ⟨rfl, rfl⟩))
    all_goals
      have hBf := HB0.out.trans (b4.mono hle)
      go_wp2_with fail
      go_ret
      exact ⟨rfl, by first | exact hBf | exact ⟨hBf.os, hBf.tape, hBf.output, hBf.size, hBf.block⟩⟩
  · go_enter Tryz.func31, Tryz.ntmps31
    go_wp2_with fail
    rw [HW2.out, HB.out]
    go_region_held3 (fun w' => w'.cell? ⟨B, 0, none⟩ = some (.int .i64 ka) ∧ w'.cell? ⟨B, 1, none⟩ = some (.float .f64 x) ∧ w'.cell? ⟨B, 2, none⟩ = some (.string s) ∧ w'.cell? ⟨B + 1, 0, none⟩ = some (.int .i64 2) ∧ w'.cell? ⟨B + 1, 1, none⟩ = some (.float .f64 y) ∧ w'.cell? ⟨B + 1, 2, none⟩ = some (.string t))
      (first | (with_reducible exact S3) | (with_reducible exact S2) | (with_reducible exact S1) | go_keep)
      (first
      | (go_at_call 88; (with_reducible refine (CA.out _ (HTW.out _ (by first | exact hR | exact hR.drew | exact below_drewN hR _))).mono ?_); rintro e W3 ⟨rfl, h3⟩; have b3 : Below W2.heap.size W2 W3 := ⟨h3.os, h3.tape, h3.output, h3.size, h3.block⟩; have S1 := HCW.out _ b3; clear h3)
      | (go_at_call 88; (with_reducible refine (CB.out _ (HTW.out _ (by first | exact b3 | exact b3.drew | exact below_drewN b3 _))).mono ?_); rintro e W4 ⟨rfl, h4⟩; have b4 : Below W2.heap.size W2 W4 := b3.trans ((⟨h4.os, h4.tape, h4.output, h4.size, h4.block⟩ : Below W3.heap.size W3 W4).mono b3.size); have S2 := HCW.out _ b4; clear h4)
      | (go_at_call 87; (with_reducible refine (CC.out _).mono ?_); rintro e w' ⟨rfl, rfl⟩))
    all_goals
      have hBf := HB0.out.trans (b4.mono hle)
      go_wp2_with fail
      go_ret
      exact ⟨rfl, by first | exact hBf | exact ⟨hBf.os, hBf.tape, hBf.output, hBf.size, hBf.block⟩⟩
end Go.Proofs.YtbbbdcohkfijoaaGreatDoor

namespace Go.Proofs.YtbbbdcohkfijoaaGreatDoor
open Go.RowKit Go.Lib

theorem preN_fw {l X1 X2 : List UInt8} {b : Bool} {xe z : Int} {m : Nat} (hX : sigL l = (b, X1, X2, xe, z)) (hm : m < 9007199254740992) (he : pv (X1 ++ X2) * 10 ^ (xe - (X2.length : Int)).toNat = m * 10 ^ (-(xe - (X2.length : Int))).toNat) : preN l = turned b (fw m) := by
  unfold preN
  rw [hX]
  simp only
  have hs := Near.self (r := fw m) (by have := fw_bd hm; omega)
  rw [fw_V hm] at hs
  rw [nearR_of (Nat.pow_pos (by omega)) (near_same (by omega) (Nat.pow_pos (by omega)) ?_ hs)]
  rw [he, Nat.mul_one]
  generalize S1074 = z
  ac_rfl
end Go.Proofs.YtbbbdcohkfijoaaGreatDoor

namespace Go.Proofs.YtbbbdcohkfijoaaGreatDoor
open Go.RowKit Go.Lib

theorem cmp_facts : ∀ (l m : List UInt8), (Op.bytesLess l m = true ↔ Lib.compareBytes l m = -1) ∧ (Lib.compareBytes l m = 0 ↔ l = m) ∧ (Lib.compareBytes l m = -1 ∨ Lib.compareBytes l m = 0 ∨ Lib.compareBytes l m = 1)
  | [], [] => ⟨by decide, by decide, by decide⟩
  | [], _ :: _ => ⟨⟨fun _ => rfl, fun _ => rfl⟩, ⟨(fun h => by cases h), (fun h => by cases h)⟩, Or.inl rfl⟩
  | _ :: _, [] => ⟨⟨(fun h => by cases h), (fun h => by cases h)⟩, ⟨(fun h => by cases h), (fun h => by cases h)⟩, Or.inr (Or.inr rfl)⟩
  | a :: x, b :: y => by
    obtain ⟨i1, i2, i3⟩ := cmp_facts x y
    have e1 : Op.bytesLess (a :: x) (b :: y) = (decide (a < b) || (a == b && Op.bytesLess x y)) := rfl
    have e2 : Lib.compareBytes (a :: x) (b :: y) = if a < b then -1 else if b < a then 1 else Lib.compareBytes x y := rfl
    rw [e1, e2]
    by_cases h1 : a < b
    · have hne : a ≠ b := fun e => by rw [e] at h1; exact absurd h1 (UInt8.lt_irrefl b)
      rw [if_pos h1, decide_eq_true h1]
      exact ⟨⟨fun _ => rfl, fun _ => rfl⟩, ⟨(fun h => by cases h), (fun h => absurd (List.cons.inj h).1 hne)⟩, Or.inl rfl⟩
    · rw [if_neg h1, decide_eq_false h1, Bool.false_or]
      by_cases h2 : b < a
      · have hne : a ≠ b := fun e => by rw [e] at h2; exact absurd h2 (UInt8.lt_irrefl b)
        rw [if_pos h2, beq_eq_false_iff_ne.2 hne, Bool.false_and]
        exact ⟨⟨(fun h => by cases h), (fun h => by cases h)⟩, ⟨(fun h => by cases h), (fun h => absurd (List.cons.inj h).1 hne)⟩, Or.inr (Or.inr rfl)⟩
      · have he : a = b := UInt8.le_antisymm (UInt8.not_lt.1 h2) (UInt8.not_lt.1 h1)
        rw [if_neg h2, he, beq_self_eq_true, Bool.true_and]
        refine ⟨i1, i2.trans ⟨fun h => by rw [h], fun h => (List.cons.inj h).2⟩, i3⟩
end Go.Proofs.YtbbbdcohkfijoaaGreatDoor

namespace Go.Proofs.YtbbbdcohkfijoaaGreatDoor
open Go.RowKit Go.Lib

/-- A number's place among all: NaN stands behind all others. -/
def keyN (x : Nat) : Int := if 9218868437227405312 < mag x then 9223372036854775808 else keyZ x
theorem keyZ_bd (x : Nat) : -9223372036854775808 < keyZ x ∧ keyZ x < 9223372036854775808 := by
  have := mag_lt x
  unfold keyZ
  split <;> omega
theorem cmpN_key (x y : Nat) : cmpN x y = if keyN x < keyN y then -1 else if keyN y < keyN x then 1 else 0 := by
  have bx := keyZ_bd x
  have by' := keyZ_bd y
  unfold cmpN ltB gtB rkB keyN
  rcases Nat.lt_or_ge 9218868437227405312 (mag x) with hx | hx
  · rw [show FloatKind.f64.format.order x y = none from order_nan_l hx, nan_yes hx, if_pos hx]
    rw [if_neg (show ¬ ((none : Option Ordering) == some .lt) = true by decide), if_neg (show ¬ ((none : Option Ordering) == some .gt) = true by decide), if_pos rfl]
    rcases Nat.lt_or_ge 9218868437227405312 (mag y) with hy | hy
    · rw [nan_yes hy, if_pos hy, if_pos rfl, if_neg (by omega), if_neg (by omega)]
      rfl
    · rw [nan_no hy, if_neg (by omega : ¬ 9218868437227405312 < mag y), if_neg (by decide), if_neg (by omega), if_pos (by omega)]
      rfl
  · rw [if_neg (by omega : ¬ 9218868437227405312 < mag x), nan_no hx]
    rcases Nat.lt_or_ge 9218868437227405312 (mag y) with hy | hy
    · rw [show FloatKind.f64.format.order x y = none from order_nan_r hy, nan_yes hy, if_pos hy]
      rw [if_neg (show ¬ ((none : Option Ordering) == some .lt) = true by decide), if_neg (show ¬ ((none : Option Ordering) == some .gt) = true by decide), if_neg (by decide), if_pos rfl, if_pos (by omega)]
      rfl
    · rw [if_neg (by omega : ¬ 9218868437227405312 < mag y), nan_no hy, show FloatKind.f64.format.order x y = some (compare (keyZ x) (keyZ y)) from order_key hx hy]
      rcases Int.lt_trichotomy (keyZ x) (keyZ y) with h | h | h
      · rw [Int.compare_eq_lt.2 h, if_pos (by decide), if_pos h]
      · rw [Int.compare_eq_eq.2 h, if_neg (by decide), if_neg (by decide), if_neg (by decide), if_neg (by omega), if_neg (by omega)]
        rfl
      · rw [Int.compare_eq_gt.2 h, if_neg (by decide), if_pos (by decide), if_neg (by omega), if_pos h]
theorem cb_step (a b : UInt8) (l m : List UInt8) : (a.toNat < b.toNat → Lib.compareBytes (a :: l) (b :: m) = -1) ∧ (b.toNat < a.toNat → Lib.compareBytes (a :: l) (b :: m) = 1) ∧ (a.toNat = b.toNat → Lib.compareBytes (a :: l) (b :: m) = Lib.compareBytes l m) := by
  have e2 : Lib.compareBytes (a :: l) (b :: m) = if a < b then -1 else if b < a then 1 else Lib.compareBytes l m := rfl
  have l1 := UInt8.lt_iff_toNat_lt (a := a) (b := b)
  have l2 := UInt8.lt_iff_toNat_lt (a := b) (b := a)
  rw [e2]
  refine ⟨fun h => if_pos (l1.2 h), fun h => ?_, fun h => ?_⟩
  · rw [if_neg (fun k => by have := l1.1 k; omega), if_pos (l2.2 h)]
  · rw [if_neg (fun k => by have := l1.1 k; omega), if_neg (fun k => by have := l2.1 k; omega)]
theorem cb_swap : ∀ l m : List UInt8, Lib.compareBytes m l = -Lib.compareBytes l m
  | [], [] => rfl
  | [], _ :: _ => rfl
  | _ :: _, [] => rfl
  | a :: l, b :: m => by
    have h1 := cb_step a b l m
    have h2 := cb_step b a m l
    have h3 := cb_swap l m
    omega
theorem cb_trans : ∀ l m n : List UInt8, Lib.compareBytes l m ≤ 0 → Lib.compareBytes m n ≤ 0 → Lib.compareBytes l n ≤ 0 ∧ ((Lib.compareBytes l m = 0 ∧ Lib.compareBytes m n = 0) ↔ Lib.compareBytes l n = 0)
  | [], [], [] => fun _ _ => by decide
  | [], [], _ :: _ => fun _ _ => ⟨by show (-1 : Int) ≤ 0; decide, ⟨fun h => absurd h.2 (by show ¬ (-1 : Int) = 0; decide), fun h => absurd h (by show ¬ (-1 : Int) = 0; decide)⟩⟩
  | [], _ :: _, [] => fun _ h => absurd h (by show ¬ (1 : Int) ≤ 0; decide)
  | [], _ :: _, _ :: _ => fun _ _ => ⟨by show (-1 : Int) ≤ 0; decide, ⟨fun h => absurd h.1 (by show ¬ (-1 : Int) = 0; decide), fun h => absurd h (by show ¬ (-1 : Int) = 0; decide)⟩⟩
  | _ :: _, [], _ => fun h _ => absurd h (by show ¬ (1 : Int) ≤ 0; decide)
  | _ :: _, _ :: _, [] => fun _ h => absurd h (by show ¬ (1 : Int) ≤ 0; decide)
  | a :: l, b :: m, c :: n => by
    have h1 := cb_step a b l m
    have h2 := cb_step b c m n
    have h3 := cb_step a c l n
    have ih := cb_trans l m n
    intro k1 k2
    rcases Nat.lt_trichotomy a.toNat b.toNat with q1 | q1 | q1 <;> rcases Nat.lt_trichotomy b.toNat c.toNat with q2 | q2 | q2
    · have := h1.1 q1; have := h2.1 q2; have := h3.1 (by omega); omega
    · have := h1.1 q1; have := h3.1 (by omega); omega
    · have := h2.2.1 q2; omega
    · have := h2.1 q2; have := h3.1 (by omega); omega
    · rw [h1.2.2 q1] at k1 ⊢
      rw [h2.2.2 q2] at k2 ⊢
      rw [h3.2.2 (by omega)]
      exact ih k1 k2
    · have := h2.2.1 q2; omega
    · have := h1.2.1 q1; omega
    · have := h1.2.1 q1; omega
    · have := h1.2.1 q1; omega
/-- What Compare answers by "%.6g". -/
noncomputable def w6 (k : Int) (n : Nat) (s : ByteArray) : ByteArray := wrT k s ⟨(conv6 n).toArray⟩
end Go.Proofs.YtbbbdcohkfijoaaGreatDoor
