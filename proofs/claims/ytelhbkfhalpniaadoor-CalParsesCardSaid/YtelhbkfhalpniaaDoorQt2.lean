/- Several texts in one (Contracts of layer 13: a format's bytes, its parts replaced (whatever its parts write); Contracts of layer 13: a part, letter by letter; Contracts of layer 13: the other parts, letter by letter; Contracts of layer 13: Text; Contracts of layer 13: whole; Contracts of layer 13: Parse (by what strings.IndexAny answers); Contracts of layer 13: the document's example; Laws of layer 13: CalAges and CalNext, walked; Laws of layer 13: CalNext, walked; Contracts of layer 13: what a law's row gives: the tables). -/
import Derived.LoopTactic
import Derived.Shelf.Strconv.ErrVar
import Derived.Shelf.Strings.SlTrimAscii
import Derived.Lib.LaidU8
import Derived.Stop.LaidErr
import Derived.Test.YtelhbkfhalpniaaDoorQt1
namespace Go.Proofs.YtelhbkfhalpniaaDoor
open Go.RowKit Go.Lib Go.Joins

/-- A format's bytes, its parts replaced. -/
def txL (P : UInt8 → List UInt8) : List UInt8 → List UInt8
  | [] => []
  | [c] => [c]
  | c :: d :: r => if c = 37 then P d ++ txL P r else c :: txL P (d :: r)
/-- The letters of its parts. -/
def letL : List UInt8 → List UInt8
  | [] => []
  | [_] => []
  | c :: d :: r => if c = 37 then d :: letL r else letL (d :: r)
theorem txL_part (P : UInt8 → List UInt8) (d : UInt8) (r : List UInt8) : txL P (37 :: d :: r) = P d ++ txL P r := by
  rw [txL, if_pos rfl]
theorem txL_byte (P : UInt8 → List UInt8) (c : UInt8) (r : List UInt8) (h : c ≠ 37 ∨ r = []) : txL P (c :: r) = c :: txL P r := by
  cases r with
  | nil => rfl
  | cons d r =>
    rcases h with h | h
    · rw [txL, if_neg h]
    · cases h
theorem letL_part (d : UInt8) (r : List UInt8) : letL (37 :: d :: r) = d :: letL r := by
  rw [letL, if_pos rfl]
theorem letL_byte (c : UInt8) (r : List UInt8) (h : c ≠ 37 ∨ r = []) : letL (c :: r) = letL r := by
  cases r with
  | nil => rfl
  | cons d r =>
    rcases h with h | h
    · rw [letL, if_neg h]
    · cases h
theorem isB_below {T e : TypeId} {B b : Nat} {bs : List Value} {w w' : World} (h : Lib.IsBuilder T e B b bs w) (k : Below w.heap.size w w') : Lib.IsBuilder T e B b bs w' := by
  have key : ∀ {p : Value}, Lib.BuilderAt T e B b p bs w → Lib.BuilderAt T e B b p bs w' := fun {p} ⟨hB, v, hb, hown, hne⟩ => by
    have same : ∀ {q : Nat} {ob : Obj}, B ≤ q → w.heap[q]? = some ob → w'.heap[q]? = some ob := fun {q ob} _ hx =>
      (k.block q (Array.getElem?_eq_some_iff.1 hx).1).trans hx
    refine ⟨hB, v, same hB hb, ⟨hown.1, ?_⟩, hne⟩
    rcases hown.2 with h1 | ⟨g2, cap, cur, hv, hbg, hg2, r⟩
    · exact Or.inl h1
    · exact Or.inr ⟨g2, cap, cur, hv, hbg, same hbg hg2, r⟩
  rcases h with h | h
  · exact Or.inl (key h)
  · exact Or.inr (key h)
/-- What a round of the loop meets. -/
structure TxSt (w wr : World) (B : Nat) (x : DateZ) (t : Int) (P : UInt8 → List UInt8) (L : List UInt8) (k : Nat) (D : List UInt8) : Prop where
  b : Lib.IsBuilder 59 5 (B + 1) (B + 1) (Lib.byteCells D) wr
  bel : Below B w wr
  mom : MomAt wr B x t
  mem : CalMem wr
  mem0 : CalMem w
  lim : w.heap.size ≤ B
  size : B + 1 ≤ wr.heap.size
  tx : D ++ txL P (L.drop k) = txL P L
  len : D.length ≤ 1000 * k
  sub : ∀ d ∈ letL (L.drop k), d ∈ letL L
  kl : k ≤ L.length
theorem TxSt.below {w wr w2 : World} {B : Nat} {x : DateZ} {t : Int} {P : UInt8 → List UInt8} {L : List UInt8} {k : Nat} {D : List UInt8} (h : TxSt w wr B x t P L k D) (hb : Below wr.heap.size wr w2) : TxSt w w2 B x t P L k D :=
  ⟨isB_below h.b hb, h.bel.trans (hb.mono (Nat.le_of_succ_le h.size)), h.mom.below hb (Nat.le_refl _), h.mem.below hb (Nat.le_refl _), h.mem0, h.lim, Nat.le_trans h.size hb.size, h.tx, h.len, h.sub, h.kl⟩
theorem TxSt.part {w wr w2 : World} {B : Nat} {x : DateZ} {t : Int} {P : UInt8 → List UInt8} {L : List UInt8} {k : Nat} {D : List UInt8} (h : TxSt w wr B x t P L k D) (h1 : k + 1 < L.length) (hc : L[k]'(by omega) = 37) (hP : (P (L[k + 1]'h1)).length ≤ 1000)
    (hb : Lib.IsBuilder 59 5 (B + 1) (B + 1) (Lib.byteCells D ++ Lib.strCells ⟨(P (L[k + 1]'h1)).toArray⟩) w2) (hw : Below (B + 1) wr w2) (hm : MomAt w2 B x t) (hM : CalMem w2) : TxSt w w2 B x t P L (k + 2) (D ++ P (L[k + 1]'h1)) := by
  have e : L.drop k = 37 :: L[k + 1]'h1 :: L.drop (k + 2) := by
    rw [List.drop_eq_getElem_cons (by omega), hc, List.drop_eq_getElem_cons h1]
  have h3 := h.tx
  have h4 := h.sub
  rw [e, txL_part] at h3
  rw [e, letL_part] at h4
  refine ⟨?_, h.bel.trans (hw.mono (by omega)), hm, hM, h.mem0, h.lim, Nat.le_trans h.size hw.size, ?_, ?_, fun d hd => h4 d (List.mem_cons_of_mem _ hd), by omega⟩
  · rw [Lib.strCells_toArray] at hb
    rw [show Lib.byteCells (D ++ P (L[k + 1]'h1)) = Lib.byteCells D ++ Lib.byteCells (P (L[k + 1]'h1)) from List.map_append]
    exact hb
  · rw [List.append_assoc]; exact h3
  · rw [List.length_append]; have := h.len; omega
theorem TxSt.byte {w wr w2 : World} {B : Nat} {x : DateZ} {t : Int} {P : UInt8 → List UInt8} {L : List UInt8} {k : Nat} {D : List UInt8} (h : TxSt w wr B x t P L k D) (h1 : k < L.length) (hc : L[k]'h1 ≠ 37 ∨ k + 1 = L.length)
    (hb : Lib.IsBuilder 59 5 (B + 1) (B + 1) (Lib.byteCells D ++ [.int .u8 ((L[k]'h1).toNat : Nat)]) w2) (hw : Below (B + 1) wr w2) (hm : MomAt w2 B x t) (hM : CalMem w2) : TxSt w w2 B x t P L (k + 1) (D ++ [L[k]'h1]) := by
  have e : L.drop k = L[k]'h1 :: L.drop (k + 1) := List.drop_eq_getElem_cons h1
  have h3 := h.tx
  have h4 := h.sub
  have hd : L[k]'h1 ≠ 37 ∨ L.drop (k + 1) = [] := hc.imp id fun q => List.drop_eq_nil_iff.2 (by omega)
  rw [e, txL_byte P _ _ hd] at h3
  rw [e, letL_byte _ _ hd] at h4
  refine ⟨?_, h.bel.trans (hw.mono (by omega)), hm, hM, h.mem0, h.lim, Nat.le_trans h.size hw.size, ?_, ?_, h4, by omega⟩
  · rw [show Lib.byteCells (D ++ [L[k]'h1]) = Lib.byteCells D ++ [.int .u8 ((L[k]'h1).toNat : Nat)] from List.map_append]
    exact hb
  · rw [List.append_assoc]; exact h3
  · rw [List.length_append]; have := h.len; simp; omega
theorem MomAt.belowB {W W' : World} {B C : Nat} {x : DateZ} {t : Int} (h : MomAt W B x t) (hb : Below C W W') (hC : B < C) : MomAt W' B x t := by
  obtain ⟨h0, h1, h2, h3, h4, h5, h6, h7, h8⟩ := h
  exact ⟨(hb.cell hC).trans h0, (hb.cell hC).trans h1, (hb.cell hC).trans h2, (hb.cell hC).trans h3, (hb.cell hC).trans h4, (hb.cell hC).trans h5, (hb.cell hC).trans h6, (hb.cell hC).trans h7, (hb.cell hC).trans h8⟩
/-- The tables lie below, so that they stay. -/
theorem TxSt.calmem {w wr w2 : World} {B : Nat} {x : DateZ} {t : Int} {P : UInt8 → List UInt8} {L : List UInt8} {k : Nat} {D : List UInt8} (h : TxSt w wr B x t P L k D) (hb : Below (B + 1) wr w2) : CalMem w2 := h.mem0.below (h.bel.trans (hb.mono (Nat.le_succ _))) h.lim
set_option maxRecDepth 100000 in
set_option maxHeartbeats 4000000 in
theorem text_of (P : UInt8 → List UInt8) (S : ByteArray) (x : DateZ) (t : Int) (w : World) (hM : CalMem w) (hS : S.size ≤ 1000000000)
    (hP : ∀ d ∈ letL S.data.toList, (P d).length ≤ 1000 ∧ ∀ W, CalMem W → Calls Tryd.prog 24 #[momV x t, .int .u8 (d.toNat : Nat)] W fun e w' => e = .returned (.string ⟨(P d).toArray⟩) ∧ Below W.heap.size W w') :
    Calls Tryd.prog 11 #[momV x t, .string S] w fun e w' => e = .returned (.string ⟨(txL P S.data.toList).toArray⟩) ∧ Below w.heap.size w w' := by
  obtain ⟨L, hL⟩ : ∃ L, S.data.toList = L := ⟨_, rfl⟩
  have hlen : L.length = S.size := by rw [← hL]; rfl
  have HBY := Lib.hid (fun (j : Nat) (hj : j < S.size) (hj' : j < L.length) => (show S[j]'hj = L[j]'hj' from by subst hL; rfl))
  rw [hL] at hP ⊢
  have HP := Lib.hid hP
  have HLEN := Lib.hid hlen
  have HM := Lib.hid hM
  unfold momV
  clear hL hP hM
  go_enter Tryd.func11, Tryd.ntmps11
  go_wp2_with fail
  have hbB : Below w.heap.size w ((w.alloc (momO x t)).alloc (.cells #[.pointer none, .slice none 0 0] 59)) := below_alloc2 w _ _
  have hI := momAt_new w x t (.cells #[.pointer none, .slice none 0 0] 59)
  have hF : Lib.IsBuilder 59 5 (w.alloc (momO x t)).heap.size (w.alloc (momO x t)).heap.size [] ((w.alloc (momO x t)).alloc (.cells #[.pointer none, .slice none 0 0] 59)) := Lib.fresh_isBuilder _ _ _
  rw [show (w.alloc (momO x t)).heap.size = w.heap.size + 1 by simp] at hF
  have hM2 := HM.out.below hbB (Nat.le_refl _)
  have hsz : w.heap.size + 1 ≤ ((w.alloc (momO x t)).alloc (.cells #[.pointer none, .slice none 0 0] 59)).heap.size := by simp
  unfold momO at hbB hI hF hM2 hsz
  obtain ⟨W2, hW2⟩ : ∃ W2, (w.alloc (.cells #[.int .i64 x.y, .int .i64 x.m, .int .i64 x.d, .int .i64 x.hh, .int .i64 x.mm, .int .i64 x.ss, .int .i64 x.wk, .int .i64 x.yd, .int .i64 t] 36)).alloc (.cells #[.pointer none, .slice none 0 0] 59) = W2 := ⟨_, rfl⟩
  rw [hW2] at hbB hI hF hM2 hsz ⊢
  clear hW2
  obtain ⟨B, hB⟩ : ∃ B, w.heap.size = B := ⟨_, rfl⟩
  rw [hB] at hbB hI hF hsz ⊢
  have ST0 := Lib.hid (show TxSt w W2 B x t P L 0 [] from ⟨hF, hbB, hI, hM2, HM.out, Nat.le_of_eq hB, hsz, rfl, by simp, fun d hd => hd, Nat.zero_le _⟩)
  have HB := Lib.hid hB
  clear hbB hI hF hM2 hsz hB HM
  go_loopw [6] (fun iv wr => ∃ (k : Nat) (D : List UInt8), iv = .int .i64 (k : Int) ∧ TxSt w wr B x t P L k D) (fun iv _ => S.size - (RowKit.intOf iv).toNat)
  case atStart => exact ⟨0, [], rfl, ST0.out⟩
  case round =>
    obtain ⟨k, D, rfl, st⟩ := hrel
    clear ST0
    have hk := st.kl
    rw [HLEN.out] at hk
    have ST := Lib.hid st
    have hI := st.mom
    unfold MomAt at hI
    obtain ⟨c0, c1, c2, c3, c4, c5, c6, c7, c8⟩ := hI
    clear st
    have g0 : (0 : Int) ≤ (k : Int) := by omega
    by_cases hlt : k < S.size
    · have gk : (k : Int) < (S.size : Int) := by omega
      have hlt' : k < L.length := by rw [HLEN.out]; exact hlt
      obtain ⟨z, hz⟩ : ∃ z, (S[k]'hlt).toNat = z := ⟨_, rfl⟩
      have hz' : (L[k]'hlt').toNat = z := by rw [← HBY.out k hlt hlt']; exact hz
      have hzi : ((S[k]'hlt).toNat : Int) = (z : Int) := by omega
      have HZ := Lib.hid hz'
      clear hz hz'
      have w1 : IntKind.i64.wrap ((k : Int) + 1) = (k : Int) + 1 := by rw [IntKind.wrap_i64]; omega
      by_cases hc : z = 37
      · subst hc
        by_cases hl1 : k + 1 < S.size
        · have gk1 : (k : Int) + 1 < (S.size : Int) := by omega
          have gk2 : (0 : Int) ≤ (k : Int) + 1 := by omega
          have hl1' : k + 1 < L.length := by rw [HLEN.out]; exact hl1
          have hc37 : L[k]'hlt' = 37 := UInt8.toNat_inj.1 HZ.out
          have hdm : L[k + 1]'hl1' ∈ letL L := ST.out.sub _ (by
            rw [List.drop_eq_getElem_cons hlt', hc37, List.drop_eq_getElem_cons hl1', letL_part]
            exact List.mem_cons_self ..)
          obtain ⟨hp1, hp2⟩ := HP.out _ hdm
          obtain ⟨d, hd⟩ : ∃ d, (S[k + 1]'hl1).toNat = d := ⟨_, rfl⟩
          have hd' : (L[k + 1]'hl1').toNat = d := by rw [← HBY.out (k + 1) hl1 hl1']; exact hd
          have hdi : ((S[k + 1]'hl1).toNat : Int) = (d : Int) := by omega
          rw [hd'] at hp2
          obtain ⟨T, hT⟩ : ∃ T : ByteArray, (⟨(P (L[k + 1]'hl1')).toArray⟩ : ByteArray) = T := ⟨_, rfl⟩
          rw [hT] at hp2
          have hTs : T.size ≤ 1000 := by rw [← hT]; exact hp1
          unfold momV at hp2
          have CP := Lib.hid hp2
          have HC37 := Lib.hid hc37
          have HT := Lib.hid hT
          have HP1 := Lib.hid hp1
          clear hp1 hp2 hd hd' hdm hT hc37
          go_wp2_with fail
          go_region_held3 (fun w' => w'.cell? ⟨B, 0, none⟩ = some (.int .i64 x.y) ∧ w'.cell? ⟨B, 1, none⟩ = some (.int .i64 x.m) ∧ w'.cell? ⟨B, 2, none⟩ = some (.int .i64 x.d) ∧ w'.cell? ⟨B, 3, none⟩ = some (.int .i64 x.hh) ∧ w'.cell? ⟨B, 4, none⟩ = some (.int .i64 x.mm) ∧ w'.cell? ⟨B, 5, none⟩ = some (.int .i64 x.ss) ∧ w'.cell? ⟨B, 6, none⟩ = some (.int .i64 x.wk) ∧ w'.cell? ⟨B, 7, none⟩ = some (.int .i64 x.yd) ∧ w'.cell? ⟨B, 8, none⟩ = some (.int .i64 t))
            (first | (with_reducible exact S1) | go_keep)
            (first
            | (go_at_call 24; (with_reducible refine (CP.out wr.drew (ST.out.mem.below (cal_drewN (Below.refl _ _) 1) (Nat.le_refl _))).mono ?_); rintro e W3 ⟨rfl, h3⟩; have b3 : Below wr.heap.size wr W3 := ⟨h3.os, h3.tape, h3.output, h3.size, h3.block⟩; have S1 := momAt_open (ST.out.mom.below b3 (Nat.le_refl _)); have ST3 := Lib.hid (ST.out.below b3); clear h3 b3)
            | (go_at_call 23; (with_reducible refine (writeS (B + 1) (B + 1) (Lib.byteCells D) T W3 ST3.out.b (by rw [Lib.byteCells_length]; have := ST3.out.len; have := HLEN.out; omega) ST3.out.size).mono ?_); rintro e W4 ⟨rfl, b4, h4⟩; have S2 := momAt_open (ST3.out.mom.belowB h4 (Nat.lt_succ_self _))))
          have HST := Lib.hid (TxSt.part (k := k) (ST3.out) hl1' HC37.out HP1.out (by rw [HT.out]; exact b4) h4 (ST3.out.mom.belowB h4 (Nat.lt_succ_self _)) (ST3.out.calmem h4))
          clear b4 h4 ST3 S1 S2 c0 c1 c2 c3 c4 c5 c6 c7 c8 ST
          go_wp2_with fail
          go_roundw
          case rel => exact ⟨k + 2, _, by go_num, HST.out⟩
          case measure => simp [RowKit.intOf]; omega
        · have HCC := Lib.hid (show L[k]'hlt' ≠ 37 ∨ k + 1 = L.length from Or.inr (by have := HLEN.out; omega))
          have gk1 : ¬ (k : Int) + 1 < (S.size : Int) := by omega
          go_wp2_with fail
          refine (writeB (B + 1) (B + 1) (Lib.byteCells D) 37 _ ST.out.b (by rw [Lib.byteCells_length]; have := ST.out.len; have := HLEN.out; omega) ST.out.size).mono ?_
          rintro e W3 ⟨rfl, b3, h3⟩
          have HST := Lib.hid (ST.out.byte hlt' HCC.out (by rw [HZ.out]; exact b3) h3 (ST.out.mom.belowB h3 (Nat.lt_succ_self _)) (ST.out.calmem h3))
          clear b3 h3 c0 c1 c2 c3 c4 c5 c6 c7 c8 ST
          go_wp2_with fail
          go_roundw
          case rel => exact ⟨k + 1, _, by go_num, HST.out⟩
          case measure => simp [RowKit.intOf]; omega
      · have HCC := Lib.hid (show L[k]'hlt' ≠ 37 ∨ k + 1 = L.length from Or.inl (fun h => by have := HZ.out; rw [h] at this; exact hc this.symm))
        have hcb : ((z : Int) == 37) = false := by rw [beq_eq_false_iff_ne]; omega
        go_wp2_with fail
        refine (writeB (B + 1) (B + 1) (Lib.byteCells D) z _ ST.out.b (by rw [Lib.byteCells_length]; have := ST.out.len; have := HLEN.out; omega) ST.out.size).mono ?_
        rintro e W3 ⟨rfl, b3, h3⟩
        have HST := Lib.hid (ST.out.byte hlt' HCC.out (by rw [HZ.out]; exact b3) h3 (ST.out.mom.belowB h3 (Nat.lt_succ_self _)) (ST.out.calmem h3))
        clear b3 h3 c0 c1 c2 c3 c4 c5 c6 c7 c8 ST
        go_wp2_with fail
        go_roundw
        case rel => exact ⟨k + 1, _, by go_num, HST.out⟩
        case measure => simp [RowKit.intOf]; omega
    · obtain rfl : k = S.size := by omega
      have cS := Tryd.Builder_String_any (B + 1) (B + 1) D wr ST.out.b ST.out.size
      have hfin : D = txL P L := by
        have h := ST.out.tx
        rw [← HLEN.out, List.drop_length] at h
        simpa [txL] using h
      have CS := Lib.hid cS
      have HF := Lib.hid hfin
      have HBel := Lib.hid ST.out.bel
      clear cS hfin c0 c1 c2 c3 c4 c5 c6 c7 c8
      go_wp2_with fail
      refine CS.out.mono ?_
      rintro e W3 ⟨rfl, h3⟩
      have HB3 := Lib.hid h3
      clear h3
      go_wp2_with fail
      go_ret
      refine ⟨by rw [← HF.out]; rfl, ?_⟩
      rw [HB.out]
      exact HBel.out.trans (HB3.out.mono (Nat.le_succ _))
end Go.Proofs.YtelhbkfhalpniaaDoor

namespace Go.Proofs.YtelhbkfhalpniaaDoor
open Go.RowKit Go.Lib Go.Joins

/-- The number that a letter stands for, and its least digits. -/
def numZ (x th : DateZ) (t : Int) (d : UInt8) : Option (Int × Nat) :=
  if d = 89 then some (x.y, 1)
  else if d = 67 then some (x.y / 100, 2)
  else if d = 121 then some (x.y % 100, 2)
  else if d = 109 then some (x.m, 2)
  else if d = 100 then some (x.d, 2)
  else if d = 72 then some (x.hh, 2)
  else if d = 73 then some ((x.hh + 11) % 12 + 1, 2)
  else if d = 77 then some (x.mm, 2)
  else if d = 83 then some (x.ss, 2)
  else if d = 106 then some (x.yd, 3)
  else if d = 119 then some (x.wk, 1)
  else if d = 117 then some ((x.wk + 6) % 7 + 1, 1)
  else if d = 85 then some ((x.yd - x.wk + 6) / 7, 2)
  else if d = 87 then some ((x.yd - (x.wk + 6) % 7 + 6) / 7, 2)
  else if d = 86 then some ((th.yd - 1) / 7 + 1, 2)
  else if d = 71 then some (th.y, 1)
  else if d = 103 then some (th.y % 100, 2)
  else if d = 115 then some (t, 1)
  else none
/-- What a number's letter writes, or what is no letter. -/
def lowZ (x th : DateZ) (t : Int) (d : UInt8) : List UInt8 := match numZ x th t d with
  | some (n, k) => padL n k 48
  | none => [37, d]
/-- What a part writes. -/
def partZ (x th : DateZ) (t : Int) (d : UInt8) : List UInt8 :=
  if d = 97 then (wdN x.wk.toNat).take 3
  else if d = 65 then wdN x.wk.toNat
  else if d = 98 ∨ d = 104 then (moN (x.m - 1).toNat).take 3
  else if d = 66 then moN (x.m - 1).toNat
  else if d = 101 then padL x.d 2 32
  else if d = 112 then (if x.hh < 12 then [65, 77] else [80, 77])
  else if d = 68 then txL (lowZ x th t) [37, 109, 47, 37, 100, 47, 37, 121]
  else if d = 70 then txL (lowZ x th t) [37, 89, 45, 37, 109, 45, 37, 100]
  else if d = 82 then txL (lowZ x th t) [37, 72, 58, 37, 77]
  else if d = 84 then txL (lowZ x th t) [37, 72, 58, 37, 77, 58, 37, 83]
  else if d = 110 then [10]
  else if d = 116 then [9]
  else if d = 122 then [43, 48, 48, 48, 48]
  else if d = 90 then [85, 84, 67]
  else if d = 37 then [37]
  else lowZ x th t d
/-- What all of it hangs on. -/
structure Mom (x th : DateZ) (t : Int) : Prop where
  d : DateIs t x
  lo : -62135596800 ≤ t
  hi : t ≤ 253402300799
  th : DateIs (t + (3 - (x.wk + 6) % 7) * 86400) th
theorem Mom.fair {x th : DateZ} {t : Int} (h : Mom x th t) : Fair x := h.d.fair h.lo h.hi
theorem Mom.fairT {x th : DateZ} {t : Int} (h : Mom x th t) : Fair th := Fair.th h.d h.lo h.hi h.th
theorem mom_ex {t : Int} {x : DateZ} (h : DateIs t x) (lo : -62135596800 ≤ t) (hi : t ≤ 253402300799) : ∃ th, Mom x th t := by
  obtain ⟨th, hth⟩ := date_ex (t + (3 - (x.wk + 6) % 7) * 86400) (h.thu lo hi).1
  exact ⟨th, h, lo, hi, hth⟩
theorem padL_len (n : Int) (k : Nat) (f : UInt8) (h0 : -9223372036854775808 ≤ n) (h1 : n ≤ 9223372036854775807) : (padL n k f).length ≤ k + 21 := by
  have h := Lib.itoa_length_le n h0 h1
  unfold padL
  rw [List.length_append, List.length_replicate]
  omega
set_option maxRecDepth 100000 in
set_option maxHeartbeats 4000000 in
theorem num_none (x : DateZ) (t : Int) (d : Nat) (w : World) (hn0 : d ≠ 89) (hn1 : d ≠ 67) (hn2 : d ≠ 121) (hn3 : d ≠ 109) (hn4 : d ≠ 100) (hn5 : d ≠ 72) (hn6 : d ≠ 73) (hn7 : d ≠ 77) (hn8 : d ≠ 83) (hn9 : d ≠ 106) (hn10 : d ≠ 119) (hn11 : d ≠ 117) (hn12 : d ≠ 85) (hn13 : d ≠ 87) (hn14 : d ≠ 86) (hn15 : d ≠ 71) (hn16 : d ≠ 103) (hn17 : d ≠ 115) : Calls Tryd.prog 46 #[momV x t, .int .u8 d] w fun e w' => e = .returned (.tuple #[.int .i64 0, .int .i64 0, .bool false]) ∧ Below w.heap.size w w' := by
  have e0 : ((d : Int) == 89) = false := by rw [beq_eq_false_iff_ne]; omega
  have e1 : ((d : Int) == 67) = false := by rw [beq_eq_false_iff_ne]; omega
  have e2 : ((d : Int) == 121) = false := by rw [beq_eq_false_iff_ne]; omega
  have e3 : ((d : Int) == 109) = false := by rw [beq_eq_false_iff_ne]; omega
  have e4 : ((d : Int) == 100) = false := by rw [beq_eq_false_iff_ne]; omega
  have e5 : ((d : Int) == 72) = false := by rw [beq_eq_false_iff_ne]; omega
  have e6 : ((d : Int) == 73) = false := by rw [beq_eq_false_iff_ne]; omega
  have e7 : ((d : Int) == 77) = false := by rw [beq_eq_false_iff_ne]; omega
  have e8 : ((d : Int) == 83) = false := by rw [beq_eq_false_iff_ne]; omega
  have e9 : ((d : Int) == 106) = false := by rw [beq_eq_false_iff_ne]; omega
  have e10 : ((d : Int) == 119) = false := by rw [beq_eq_false_iff_ne]; omega
  have e11 : ((d : Int) == 117) = false := by rw [beq_eq_false_iff_ne]; omega
  have e12 : ((d : Int) == 85) = false := by rw [beq_eq_false_iff_ne]; omega
  have e13 : ((d : Int) == 87) = false := by rw [beq_eq_false_iff_ne]; omega
  have e14 : ((d : Int) == 86) = false := by rw [beq_eq_false_iff_ne]; omega
  have e15 : ((d : Int) == 71) = false := by rw [beq_eq_false_iff_ne]; omega
  have e16 : ((d : Int) == 103) = false := by rw [beq_eq_false_iff_ne]; omega
  have e17 : ((d : Int) == 115) = false := by rw [beq_eq_false_iff_ne]; omega
  unfold momV
  go_enter Tryd.func46, Tryd.ntmps46
  go_wp2_with fail
  go_ret3
  exact ⟨rfl, below_alloc1 w _⟩
set_option maxRecDepth 100000 in
set_option maxHeartbeats 4000000 in
theorem part_num (x : DateZ) (t : Int) (d : Nat) (n : Int) (k : Nat) (w : World) (hM : CalMem w) (h0 : -9223372036854775808 ≤ n) (h1 : n ≤ 9223372036854775807) (hk : k ≤ 100) (hN : ∀ W, CalMem W → Calls Tryd.prog 46 #[momV x t, .int .u8 d] W fun e w' => e = .returned (.tuple #[.int .i64 n, .int .i64 k, .bool true]) ∧ Below W.heap.size W w') (hf0 : d ≠ 97) (hf1 : d ≠ 65) (hf2 : d ≠ 98) (hf3 : d ≠ 104) (hf4 : d ≠ 66) (hf5 : d ≠ 101) (hf6 : d ≠ 112) (hf7 : d ≠ 68) (hf8 : d ≠ 70) (hf9 : d ≠ 82) (hf10 : d ≠ 84) (hf11 : d ≠ 110) (hf12 : d ≠ 116) (hf13 : d ≠ 122) (hf14 : d ≠ 90) (hf15 : d ≠ 37) : Calls Tryd.prog 24 #[momV x t, .int .u8 d] w fun e w' => e = .returned (.string ⟨(padL n k 48).toArray⟩) ∧ Below w.heap.size w w' := by
  have f0 : ((d : Int) == 97) = false := by rw [beq_eq_false_iff_ne]; omega
  have f1 : ((d : Int) == 65) = false := by rw [beq_eq_false_iff_ne]; omega
  have f2 : ((d : Int) == 98) = false := by rw [beq_eq_false_iff_ne]; omega
  have f3 : ((d : Int) == 104) = false := by rw [beq_eq_false_iff_ne]; omega
  have f4 : ((d : Int) == 66) = false := by rw [beq_eq_false_iff_ne]; omega
  have f5 : ((d : Int) == 101) = false := by rw [beq_eq_false_iff_ne]; omega
  have f6 : ((d : Int) == 112) = false := by rw [beq_eq_false_iff_ne]; omega
  have f7 : ((d : Int) == 68) = false := by rw [beq_eq_false_iff_ne]; omega
  have f8 : ((d : Int) == 70) = false := by rw [beq_eq_false_iff_ne]; omega
  have f9 : ((d : Int) == 82) = false := by rw [beq_eq_false_iff_ne]; omega
  have f10 : ((d : Int) == 84) = false := by rw [beq_eq_false_iff_ne]; omega
  have f11 : ((d : Int) == 110) = false := by rw [beq_eq_false_iff_ne]; omega
  have f12 : ((d : Int) == 116) = false := by rw [beq_eq_false_iff_ne]; omega
  have f13 : ((d : Int) == 122) = false := by rw [beq_eq_false_iff_ne]; omega
  have f14 : ((d : Int) == 90) = false := by rw [beq_eq_false_iff_ne]; omega
  have f15 : ((d : Int) == 37) = false := by rw [beq_eq_false_iff_ne]; omega
  have hb := below_alloc1 w (momO x t)
  have hM2 := hM.below hb (Nat.le_refl _)
  have CN := hN _ hM2
  unfold momV momO at CN
  have CN := Lib.hid CN
  have CP := Lib.hid (fun (W : World) (hW : CalMem W) => padded_any n k 48 W hW h0 h1 hk)
  have HM2 := Lib.hid hM2
  have HBB := Lib.hid hb
  unfold momV
  clear hM hM2 hb hN
  go_enter Tryd.func24, Tryd.ntmps24
  go_wp2_with fail
  refine CN.out.mono ?_
  rintro e W3 ⟨rfl, h3⟩
  have HB3 := Lib.hid h3
  have HM3 := Lib.hid (HM2.out.below h3 (Nat.le_refl _))
  clear h3
  go_wp2_with fail
  refine (CP.out _ HM3.out).mono ?_
  rintro e W4 ⟨rfl, h4⟩
  have HB4 := Lib.hid h4
  clear h4
  go_wp2_with fail
  go_ret
  exact ⟨rfl, first_bel (first_bel HBB.out HB3.out) HB4.out (by simp)⟩
set_option maxHeartbeats 4000000 in
theorem num_all {x th : DateZ} {t : Int} (h : Mom x th t) (d : UInt8) (n : Int) (k : Nat) (hd : numZ x th t d = some (n, k)) : (∀ W, CalMem W → Calls Tryd.prog 46 #[momV x t, .int .u8 (d.toNat : Nat)] W fun e w' => e = .returned (.tuple #[.int .i64 n, .int .i64 k, .bool true]) ∧ Below W.heap.size W w') ∧ (-9223372036854775808 ≤ n ∧ n ≤ 9223372036854775807 ∧ k ≤ 3) ∧ (d.toNat ≠ 97 ∧ d.toNat ≠ 65 ∧ d.toNat ≠ 98 ∧ d.toNat ≠ 104 ∧ d.toNat ≠ 66 ∧ d.toNat ≠ 101 ∧ d.toNat ≠ 112 ∧ d.toNat ≠ 68 ∧ d.toNat ≠ 70 ∧ d.toNat ≠ 82 ∧ d.toNat ≠ 84 ∧ d.toNat ≠ 110 ∧ d.toNat ≠ 116 ∧ d.toNat ≠ 122 ∧ d.toNat ≠ 90 ∧ d.toNat ≠ 37) := by
  have hf := h.fair
  have hft := h.fairT
  have hl := h.lo
  have hh := h.hi
  obtain ⟨⟨y1, y2⟩, ⟨m1, m2⟩, ⟨d1, d2⟩, ⟨h1, h2⟩, ⟨n1, n2⟩, ⟨s1, s2⟩, ⟨k1, k2⟩, ⟨j1, j2⟩⟩ := id hf
  obtain ⟨⟨ty1, ty2⟩, _, _, _, _, _, _, ⟨tj1, tj2⟩⟩ := id hft
  unfold numZ at hd
  by_cases q0 : d = 89
  · rw [if_pos q0] at hd
    injection hd with hd
    injection hd with e1 e2
    subst e1; subst e2; subst q0
    exact ⟨fun W _ => num_Yc x t W hf, ⟨by omega, by omega, by omega⟩, by decide⟩
  rw [if_neg q0] at hd
  by_cases q1 : d = 67
  · rw [if_pos q1] at hd
    injection hd with hd
    injection hd with e1 e2
    subst e1; subst e2; subst q1
    exact ⟨fun W _ => num_Cc x t W hf, ⟨by omega, by omega, by omega⟩, by decide⟩
  rw [if_neg q1] at hd
  by_cases q2 : d = 121
  · rw [if_pos q2] at hd
    injection hd with hd
    injection hd with e1 e2
    subst e1; subst e2; subst q2
    exact ⟨fun W _ => num_y x t W hf, ⟨by omega, by omega, by omega⟩, by decide⟩
  rw [if_neg q2] at hd
  by_cases q3 : d = 109
  · rw [if_pos q3] at hd
    injection hd with hd
    injection hd with e1 e2
    subst e1; subst e2; subst q3
    exact ⟨fun W _ => num_m x t W hf, ⟨by omega, by omega, by omega⟩, by decide⟩
  rw [if_neg q3] at hd
  by_cases q4 : d = 100
  · rw [if_pos q4] at hd
    injection hd with hd
    injection hd with e1 e2
    subst e1; subst e2; subst q4
    exact ⟨fun W _ => num_d x t W hf, ⟨by omega, by omega, by omega⟩, by decide⟩
  rw [if_neg q4] at hd
  by_cases q5 : d = 72
  · rw [if_pos q5] at hd
    injection hd with hd
    injection hd with e1 e2
    subst e1; subst e2; subst q5
    exact ⟨fun W _ => num_Hc x t W hf, ⟨by omega, by omega, by omega⟩, by decide⟩
  rw [if_neg q5] at hd
  by_cases q6 : d = 73
  · rw [if_pos q6] at hd
    injection hd with hd
    injection hd with e1 e2
    subst e1; subst e2; subst q6
    exact ⟨fun W _ => num_Ic x t W hf, ⟨by omega, by omega, by omega⟩, by decide⟩
  rw [if_neg q6] at hd
  by_cases q7 : d = 77
  · rw [if_pos q7] at hd
    injection hd with hd
    injection hd with e1 e2
    subst e1; subst e2; subst q7
    exact ⟨fun W _ => num_Mc x t W hf, ⟨by omega, by omega, by omega⟩, by decide⟩
  rw [if_neg q7] at hd
  by_cases q8 : d = 83
  · rw [if_pos q8] at hd
    injection hd with hd
    injection hd with e1 e2
    subst e1; subst e2; subst q8
    exact ⟨fun W _ => num_Sc x t W hf, ⟨by omega, by omega, by omega⟩, by decide⟩
  rw [if_neg q8] at hd
  by_cases q9 : d = 106
  · rw [if_pos q9] at hd
    injection hd with hd
    injection hd with e1 e2
    subst e1; subst e2; subst q9
    exact ⟨fun W _ => num_j x t W hf, ⟨by omega, by omega, by omega⟩, by decide⟩
  rw [if_neg q9] at hd
  by_cases q10 : d = 119
  · rw [if_pos q10] at hd
    injection hd with hd
    injection hd with e1 e2
    subst e1; subst e2; subst q10
    exact ⟨fun W _ => num_w x t W hf, ⟨by omega, by omega, by omega⟩, by decide⟩
  rw [if_neg q10] at hd
  by_cases q11 : d = 117
  · rw [if_pos q11] at hd
    injection hd with hd
    injection hd with e1 e2
    subst e1; subst e2; subst q11
    exact ⟨fun W _ => num_u x t W hf, ⟨by omega, by omega, by omega⟩, by decide⟩
  rw [if_neg q11] at hd
  by_cases q12 : d = 85
  · rw [if_pos q12] at hd
    injection hd with hd
    injection hd with e1 e2
    subst e1; subst e2; subst q12
    exact ⟨fun W _ => num_Uc x t W hf, ⟨by omega, by omega, by omega⟩, by decide⟩
  rw [if_neg q12] at hd
  by_cases q13 : d = 87
  · rw [if_pos q13] at hd
    injection hd with hd
    injection hd with e1 e2
    subst e1; subst e2; subst q13
    exact ⟨fun W _ => num_Wc x t W hf, ⟨by omega, by omega, by omega⟩, by decide⟩
  rw [if_neg q13] at hd
  by_cases q14 : d = 86
  · rw [if_pos q14] at hd
    injection hd with hd
    injection hd with e1 e2
    subst e1; subst e2; subst q14
    exact ⟨fun W hW => num_Vc x th t W hW h.d h.lo h.hi h.th, ⟨by omega, by omega, by omega⟩, by decide⟩
  rw [if_neg q14] at hd
  by_cases q15 : d = 71
  · rw [if_pos q15] at hd
    injection hd with hd
    injection hd with e1 e2
    subst e1; subst e2; subst q15
    exact ⟨fun W hW => num_Gc x th t W hW h.d h.lo h.hi h.th, ⟨by omega, by omega, by omega⟩, by decide⟩
  rw [if_neg q15] at hd
  by_cases q16 : d = 103
  · rw [if_pos q16] at hd
    injection hd with hd
    injection hd with e1 e2
    subst e1; subst e2; subst q16
    exact ⟨fun W hW => num_g x th t W hW h.d h.lo h.hi h.th, ⟨by omega, by omega, by omega⟩, by decide⟩
  rw [if_neg q16] at hd
  by_cases q17 : d = 115
  · rw [if_pos q17] at hd
    injection hd with hd
    injection hd with e1 e2
    subst e1; subst e2; subst q17
    exact ⟨fun W _ => num_s x t W hf, ⟨by omega, by omega, by omega⟩, by decide⟩
  rw [if_neg q17] at hd
  cases hd
theorem lowZ_some {x th : DateZ} {t : Int} {d : UInt8} {n : Int} {k : Nat} (h : numZ x th t d = some (n, k)) : lowZ x th t d = padL n k 48 := by
  unfold lowZ
  rw [h]
theorem part_low {x th : DateZ} {t : Int} (h : Mom x th t) (d : UInt8) (n : Int) (k : Nat) (hd : numZ x th t d = some (n, k)) : (lowZ x th t d).length ≤ 1000 ∧ ∀ W, CalMem W → Calls Tryd.prog 24 #[momV x t, .int .u8 (d.toNat : Nat)] W fun e w' => e = .returned (.string ⟨(lowZ x th t d).toArray⟩) ∧ Below W.heap.size W w' := by
  obtain ⟨hN, ⟨n0, n1, hk⟩, f0, f1, f2, f3, f4, f5, f6, f7, f8, f9, f10, f11, f12, f13, f14, f15⟩ := num_all h d n k hd
  rw [lowZ_some hd]
  exact ⟨by have := padL_len n k 48 n0 n1; omega, fun W hW => part_num x t d.toNat n k W hW n0 n1 (by omega) hN f0 f1 f2 f3 f4 f5 f6 f7 f8 f9 f10 f11 f12 f13 f14 f15⟩
theorem inner_Dc {x th : DateZ} {t : Int} (h : Mom x th t) (w : World) (hM : CalMem w) : Calls Tryd.prog 11 #[momV x t, .string ⟨#[37, 109, 47, 37, 100, 47, 37, 121]⟩] w fun e w' => e = .returned (.string ⟨(txL (lowZ x th t) [37, 109, 47, 37, 100, 47, 37, 121]).toArray⟩) ∧ Below w.heap.size w w' := by
  refine text_of (lowZ x th t) ⟨#[37, 109, 47, 37, 100, 47, 37, 121]⟩ x t w hM (by decide) (fun d hd => ?_)
  have hd : d = 109 ∨ d = 100 ∨ d = 121 := by
    have e : letL (⟨#[37, 109, 47, 37, 100, 47, 37, 121]⟩ : ByteArray).data.toList = [109, 100, 121] := by decide
    rw [e] at hd
    simpa using hd
  rcases hd with rfl | rfl | rfl
  · exact part_low h 109 _ _ rfl
  · exact part_low h 100 _ _ rfl
  · exact part_low h 121 _ _ rfl
set_option maxRecDepth 100000 in
set_option maxHeartbeats 4000000 in
theorem part_Dc {x th : DateZ} {t : Int} (h : Mom x th t) (w : World) (hM : CalMem w) : Calls Tryd.prog 24 #[momV x t, .int .u8 68] w fun e w' => e = .returned (.string ⟨(txL (lowZ x th t) [37, 109, 47, 37, 100, 47, 37, 121]).toArray⟩) ∧ Below w.heap.size w w' := by
  have hb := below_alloc1 w (momO x t)
  have CT := inner_Dc h _ (hM.below hb (Nat.le_refl _))
  unfold momV momO at CT
  have CT := Lib.hid CT
  have HBB := Lib.hid hb
  clear h hM hb
  unfold momV
  go_enter Tryd.func24, Tryd.ntmps24
  go_wp2_with fail
  refine CT.out.mono ?_
  rintro e W3 ⟨rfl, h3⟩
  have HB3 := Lib.hid h3
  clear h3
  go_wp2_with fail
  go_ret
  exact ⟨rfl, first_bel HBB.out HB3.out⟩
theorem inner_Fc {x th : DateZ} {t : Int} (h : Mom x th t) (w : World) (hM : CalMem w) : Calls Tryd.prog 11 #[momV x t, .string ⟨#[37, 89, 45, 37, 109, 45, 37, 100]⟩] w fun e w' => e = .returned (.string ⟨(txL (lowZ x th t) [37, 89, 45, 37, 109, 45, 37, 100]).toArray⟩) ∧ Below w.heap.size w w' := by
  refine text_of (lowZ x th t) ⟨#[37, 89, 45, 37, 109, 45, 37, 100]⟩ x t w hM (by decide) (fun d hd => ?_)
  have hd : d = 89 ∨ d = 109 ∨ d = 100 := by
    have e : letL (⟨#[37, 89, 45, 37, 109, 45, 37, 100]⟩ : ByteArray).data.toList = [89, 109, 100] := by decide
    rw [e] at hd
    simpa using hd
  rcases hd with rfl | rfl | rfl
  · exact part_low h 89 _ _ rfl
  · exact part_low h 109 _ _ rfl
  · exact part_low h 100 _ _ rfl
set_option maxRecDepth 100000 in
set_option maxHeartbeats 4000000 in
theorem part_Fc {x th : DateZ} {t : Int} (h : Mom x th t) (w : World) (hM : CalMem w) : Calls Tryd.prog 24 #[momV x t, .int .u8 70] w fun e w' => e = .returned (.string ⟨(txL (lowZ x th t) [37, 89, 45, 37, 109, 45, 37, 100]).toArray⟩) ∧ Below w.heap.size w w' := by
  have hb := below_alloc1 w (momO x t)
  have CT := inner_Fc h _ (hM.below hb (Nat.le_refl _))
  unfold momV momO at CT
  have CT := Lib.hid CT
  have HBB := Lib.hid hb
  clear h hM hb
  unfold momV
  go_enter Tryd.func24, Tryd.ntmps24
  go_wp2_with fail
  refine CT.out.mono ?_
  rintro e W3 ⟨rfl, h3⟩
  have HB3 := Lib.hid h3
  clear h3
  go_wp2_with fail
  go_ret
  exact ⟨rfl, first_bel HBB.out HB3.out⟩
theorem inner_Rc {x th : DateZ} {t : Int} (h : Mom x th t) (w : World) (hM : CalMem w) : Calls Tryd.prog 11 #[momV x t, .string ⟨#[37, 72, 58, 37, 77]⟩] w fun e w' => e = .returned (.string ⟨(txL (lowZ x th t) [37, 72, 58, 37, 77]).toArray⟩) ∧ Below w.heap.size w w' := by
  refine text_of (lowZ x th t) ⟨#[37, 72, 58, 37, 77]⟩ x t w hM (by decide) (fun d hd => ?_)
  have hd : d = 72 ∨ d = 77 := by
    have e : letL (⟨#[37, 72, 58, 37, 77]⟩ : ByteArray).data.toList = [72, 77] := by decide
    rw [e] at hd
    simpa using hd
  rcases hd with rfl | rfl
  · exact part_low h 72 _ _ rfl
  · exact part_low h 77 _ _ rfl
set_option maxRecDepth 100000 in
set_option maxHeartbeats 4000000 in
theorem part_Rc {x th : DateZ} {t : Int} (h : Mom x th t) (w : World) (hM : CalMem w) : Calls Tryd.prog 24 #[momV x t, .int .u8 82] w fun e w' => e = .returned (.string ⟨(txL (lowZ x th t) [37, 72, 58, 37, 77]).toArray⟩) ∧ Below w.heap.size w w' := by
  have hb := below_alloc1 w (momO x t)
  have CT := inner_Rc h _ (hM.below hb (Nat.le_refl _))
  unfold momV momO at CT
  have CT := Lib.hid CT
  have HBB := Lib.hid hb
  clear h hM hb
  unfold momV
  go_enter Tryd.func24, Tryd.ntmps24
  go_wp2_with fail
  refine CT.out.mono ?_
  rintro e W3 ⟨rfl, h3⟩
  have HB3 := Lib.hid h3
  clear h3
  go_wp2_with fail
  go_ret
  exact ⟨rfl, first_bel HBB.out HB3.out⟩
theorem inner_Tc {x th : DateZ} {t : Int} (h : Mom x th t) (w : World) (hM : CalMem w) : Calls Tryd.prog 11 #[momV x t, .string ⟨#[37, 72, 58, 37, 77, 58, 37, 83]⟩] w fun e w' => e = .returned (.string ⟨(txL (lowZ x th t) [37, 72, 58, 37, 77, 58, 37, 83]).toArray⟩) ∧ Below w.heap.size w w' := by
  refine text_of (lowZ x th t) ⟨#[37, 72, 58, 37, 77, 58, 37, 83]⟩ x t w hM (by decide) (fun d hd => ?_)
  have hd : d = 72 ∨ d = 77 ∨ d = 83 := by
    have e : letL (⟨#[37, 72, 58, 37, 77, 58, 37, 83]⟩ : ByteArray).data.toList = [72, 77, 83] := by decide
    rw [e] at hd
    simpa using hd
  rcases hd with rfl | rfl | rfl
  · exact part_low h 72 _ _ rfl
  · exact part_low h 77 _ _ rfl
  · exact part_low h 83 _ _ rfl
set_option maxRecDepth 100000 in
set_option maxHeartbeats 4000000 in
theorem part_Tc {x th : DateZ} {t : Int} (h : Mom x th t) (w : World) (hM : CalMem w) : Calls Tryd.prog 24 #[momV x t, .int .u8 84] w fun e w' => e = .returned (.string ⟨(txL (lowZ x th t) [37, 72, 58, 37, 77, 58, 37, 83]).toArray⟩) ∧ Below w.heap.size w w' := by
  have hb := below_alloc1 w (momO x t)
  have CT := inner_Tc h _ (hM.below hb (Nat.le_refl _))
  unfold momV momO at CT
  have CT := Lib.hid CT
  have HBB := Lib.hid hb
  clear h hM hb
  unfold momV
  go_enter Tryd.func24, Tryd.ntmps24
  go_wp2_with fail
  refine CT.out.mono ?_
  rintro e W3 ⟨rfl, h3⟩
  have HB3 := Lib.hid h3
  clear h3
  go_wp2_with fail
  go_ret
  exact ⟨rfl, first_bel HBB.out HB3.out⟩
end Go.Proofs.YtelhbkfhalpniaaDoor

namespace Go.Proofs.YtelhbkfhalpniaaDoor
open Go.RowKit Go.Lib Go.Joins

theorem ba_take (l : List UInt8) (k : Nat) : (⟨l.toArray⟩ : ByteArray).extract 0 k = ⟨(l.take k).toArray⟩ := by
  apply ByteArray.ext
  apply Array.toList_inj.1
  rw [ByteArray.data_extract, Array.toList_extract]
  simp [List.extract]
set_option maxRecDepth 100000 in
set_option maxHeartbeats 4000000 in
theorem part_a (x : DateZ) (t : Int) (w : World) (hM : CalMem w) (h : Fair x) : Calls Tryd.prog 24 #[momV x t, .int .u8 97] w fun e w' => e = .returned (.string ⟨((wdN x.wk.toNat).take 3).toArray⟩) ∧ Below w.heap.size w w' := by
  obtain ⟨k1, k2⟩ := h.wk
  obtain ⟨j, hj⟩ : ∃ j : Nat, x.wk = j := ⟨x.wk.toNat, by omega⟩
  have hb := below_alloc1 w (momO x t)
  have c := (hM.below hb (Nat.le_refl _)).wd j (by omega)
  unfold momO at c hb
  rw [show x.wk.toNat = j by omega]
  have hs : 6 ≤ (wdN j).length ∧ (wdN j).length ≤ 9 := by
    have : j = 0 ∨ j = 1 ∨ j = 2 ∨ j = 3 ∨ j = 4 ∨ j = 5 ∨ j = 6 := by omega
    rcases this with rfl | rfl | rfl | rfl | rfl | rfl | rfl <;> decide
  have he := ba_take (wdN j) 3
  obtain ⟨N, hN⟩ : ∃ N : ByteArray, (⟨(wdN j).toArray⟩ : ByteArray) = N := ⟨_, rfl⟩
  have hNs : 6 ≤ N.size ∧ N.size ≤ 9 := by rw [← hN]; exact hs
  rw [hN] at c he
  have g3 : (3 : Int) ≤ (N.size : Int) := by omega
  have HE := Lib.hid he
  have HBB := Lib.hid hb
  unfold momV
  clear hM h hb he hs hN
  rw [hj] at c ⊢
  go_enter Tryd.func24, Tryd.ntmps24
  go_wp2_with fail
  go_ret
  exact ⟨by rw [← HE.out]; rfl, below_alloc1 w _⟩
set_option maxRecDepth 100000 in
set_option maxHeartbeats 4000000 in
theorem part_Ac (x : DateZ) (t : Int) (w : World) (hM : CalMem w) (h : Fair x) : Calls Tryd.prog 24 #[momV x t, .int .u8 65] w fun e w' => e = .returned (.string ⟨((wdN x.wk.toNat)).toArray⟩) ∧ Below w.heap.size w w' := by
  obtain ⟨k1, k2⟩ := h.wk
  obtain ⟨j, hj⟩ : ∃ j : Nat, x.wk = j := ⟨x.wk.toNat, by omega⟩
  have hb := below_alloc1 w (momO x t)
  have c := (hM.below hb (Nat.le_refl _)).wd j (by omega)
  unfold momO at c hb
  rw [show x.wk.toNat = j by omega]
  have hs : 6 ≤ (wdN j).length ∧ (wdN j).length ≤ 9 := by
    have : j = 0 ∨ j = 1 ∨ j = 2 ∨ j = 3 ∨ j = 4 ∨ j = 5 ∨ j = 6 := by omega
    rcases this with rfl | rfl | rfl | rfl | rfl | rfl | rfl <;> decide
  have he := ba_take (wdN j) 3
  obtain ⟨N, hN⟩ : ∃ N : ByteArray, (⟨(wdN j).toArray⟩ : ByteArray) = N := ⟨_, rfl⟩
  have hNs : 6 ≤ N.size ∧ N.size ≤ 9 := by rw [← hN]; exact hs
  rw [hN] at c he ⊢
  have g3 : (3 : Int) ≤ (N.size : Int) := by omega
  have HE := Lib.hid he
  have HBB := Lib.hid hb
  unfold momV
  clear hM h hb he hs hN
  rw [hj] at c ⊢
  go_enter Tryd.func24, Tryd.ntmps24
  go_wp2_with fail
  go_ret
  exact ⟨rfl, below_alloc1 w _⟩
set_option maxRecDepth 100000 in
set_option maxHeartbeats 4000000 in
theorem part_b (x : DateZ) (t : Int) (w : World) (hM : CalMem w) (h : Fair x) : Calls Tryd.prog 24 #[momV x t, .int .u8 98] w fun e w' => e = .returned (.string ⟨((moN (x.m - 1).toNat).take 3).toArray⟩) ∧ Below w.heap.size w w' := by
  obtain ⟨k1, k2⟩ := h.m
  obtain ⟨j, hj⟩ : ∃ j : Nat, x.m = (j : Int) + 1 := ⟨(x.m - 1).toNat, by omega⟩
  have hb := below_alloc1 w (momO x t)
  have c := (hM.below hb (Nat.le_refl _)).mo j (by omega)
  unfold momO at c hb
  rw [show (x.m - 1).toNat = j by omega]
  have hs : 3 ≤ (moN j).length ∧ (moN j).length ≤ 9 := by
    have : j = 0 ∨ j = 1 ∨ j = 2 ∨ j = 3 ∨ j = 4 ∨ j = 5 ∨ j = 6 ∨ j = 7 ∨ j = 8 ∨ j = 9 ∨ j = 10 ∨ j = 11 := by omega
    rcases this with rfl | rfl | rfl | rfl | rfl | rfl | rfl | rfl | rfl | rfl | rfl | rfl <;> decide
  have he := ba_take (moN j) 3
  obtain ⟨N, hN⟩ : ∃ N : ByteArray, (⟨(moN j).toArray⟩ : ByteArray) = N := ⟨_, rfl⟩
  have hNs : 3 ≤ N.size ∧ N.size ≤ 9 := by rw [← hN]; exact hs
  rw [hN] at c he
  have g3 : (3 : Int) ≤ (N.size : Int) := by omega
  have HE := Lib.hid he
  have HBB := Lib.hid hb
  have w1 : IntKind.i64.wrap ((j : Int) + 1 - 1) = j := by rw [IntKind.wrap_i64]; omega
  unfold momV
  clear hM h hb he hs hN
  rw [hj] at c HBB ⊢
  go_enter Tryd.func24, Tryd.ntmps24
  go_wp2_with fail
  go_ret
  exact ⟨by rw [← HE.out]; rfl, below_alloc1 w _⟩
set_option maxRecDepth 100000 in
set_option maxHeartbeats 4000000 in
theorem part_h (x : DateZ) (t : Int) (w : World) (hM : CalMem w) (h : Fair x) : Calls Tryd.prog 24 #[momV x t, .int .u8 104] w fun e w' => e = .returned (.string ⟨((moN (x.m - 1).toNat).take 3).toArray⟩) ∧ Below w.heap.size w w' := by
  obtain ⟨k1, k2⟩ := h.m
  obtain ⟨j, hj⟩ : ∃ j : Nat, x.m = (j : Int) + 1 := ⟨(x.m - 1).toNat, by omega⟩
  have hb := below_alloc1 w (momO x t)
  have c := (hM.below hb (Nat.le_refl _)).mo j (by omega)
  unfold momO at c hb
  rw [show (x.m - 1).toNat = j by omega]
  have hs : 3 ≤ (moN j).length ∧ (moN j).length ≤ 9 := by
    have : j = 0 ∨ j = 1 ∨ j = 2 ∨ j = 3 ∨ j = 4 ∨ j = 5 ∨ j = 6 ∨ j = 7 ∨ j = 8 ∨ j = 9 ∨ j = 10 ∨ j = 11 := by omega
    rcases this with rfl | rfl | rfl | rfl | rfl | rfl | rfl | rfl | rfl | rfl | rfl | rfl <;> decide
  have he := ba_take (moN j) 3
  obtain ⟨N, hN⟩ : ∃ N : ByteArray, (⟨(moN j).toArray⟩ : ByteArray) = N := ⟨_, rfl⟩
  have hNs : 3 ≤ N.size ∧ N.size ≤ 9 := by rw [← hN]; exact hs
  rw [hN] at c he
  have g3 : (3 : Int) ≤ (N.size : Int) := by omega
  have HE := Lib.hid he
  have HBB := Lib.hid hb
  have w1 : IntKind.i64.wrap ((j : Int) + 1 - 1) = j := by rw [IntKind.wrap_i64]; omega
  unfold momV
  clear hM h hb he hs hN
  rw [hj] at c HBB ⊢
  go_enter Tryd.func24, Tryd.ntmps24
  go_wp2_with fail
  go_ret
  exact ⟨by rw [← HE.out]; rfl, below_alloc1 w _⟩
set_option maxRecDepth 100000 in
set_option maxHeartbeats 4000000 in
theorem part_Bc (x : DateZ) (t : Int) (w : World) (hM : CalMem w) (h : Fair x) : Calls Tryd.prog 24 #[momV x t, .int .u8 66] w fun e w' => e = .returned (.string ⟨((moN (x.m - 1).toNat)).toArray⟩) ∧ Below w.heap.size w w' := by
  obtain ⟨k1, k2⟩ := h.m
  obtain ⟨j, hj⟩ : ∃ j : Nat, x.m = (j : Int) + 1 := ⟨(x.m - 1).toNat, by omega⟩
  have hb := below_alloc1 w (momO x t)
  have c := (hM.below hb (Nat.le_refl _)).mo j (by omega)
  unfold momO at c hb
  rw [show (x.m - 1).toNat = j by omega]
  have hs : 3 ≤ (moN j).length ∧ (moN j).length ≤ 9 := by
    have : j = 0 ∨ j = 1 ∨ j = 2 ∨ j = 3 ∨ j = 4 ∨ j = 5 ∨ j = 6 ∨ j = 7 ∨ j = 8 ∨ j = 9 ∨ j = 10 ∨ j = 11 := by omega
    rcases this with rfl | rfl | rfl | rfl | rfl | rfl | rfl | rfl | rfl | rfl | rfl | rfl <;> decide
  have he := ba_take (moN j) 3
  obtain ⟨N, hN⟩ : ∃ N : ByteArray, (⟨(moN j).toArray⟩ : ByteArray) = N := ⟨_, rfl⟩
  have hNs : 3 ≤ N.size ∧ N.size ≤ 9 := by rw [← hN]; exact hs
  rw [hN] at c he ⊢
  have g3 : (3 : Int) ≤ (N.size : Int) := by omega
  have HE := Lib.hid he
  have HBB := Lib.hid hb
  have w1 : IntKind.i64.wrap ((j : Int) + 1 - 1) = j := by rw [IntKind.wrap_i64]; omega
  unfold momV
  clear hM h hb he hs hN
  rw [hj] at c HBB ⊢
  go_enter Tryd.func24, Tryd.ntmps24
  go_wp2_with fail
  go_ret
  exact ⟨rfl, below_alloc1 w _⟩
set_option maxRecDepth 100000 in
set_option maxHeartbeats 4000000 in
theorem part_e (x : DateZ) (t : Int) (w : World) (hM : CalMem w) (h : Fair x) : Calls Tryd.prog 24 #[momV x t, .int .u8 101] w fun e w' => e = .returned (.string ⟨(padL x.d 2 32).toArray⟩) ∧ Below w.heap.size w w' := by
  obtain ⟨d1, d2⟩ := h.d
  have hb := below_alloc1 w (momO x t)
  have CP := padded_any x.d 2 32 _ (hM.below hb (Nat.le_refl _)) (by omega) (by omega) (by omega)
  unfold momO at CP
  have CP := Lib.hid CP
  have HBB := Lib.hid hb
  unfold momV
  clear hM h hb
  go_enter Tryd.func24, Tryd.ntmps24
  go_wp2_with fail
  refine CP.out.mono ?_
  rintro e W3 ⟨rfl, h3⟩
  have HB3 := Lib.hid h3
  clear h3
  go_wp2_with fail
  go_ret
  exact ⟨rfl, first_bel HBB.out HB3.out⟩
set_option maxRecDepth 100000 in
set_option maxHeartbeats 4000000 in
theorem part_p (x : DateZ) (t : Int) (w : World) : Calls Tryd.prog 24 #[momV x t, .int .u8 112] w fun e w' => e = .returned (.string ⟨(if x.hh < 12 then [65, 77] else [80, 77]).toArray⟩) ∧ Below w.heap.size w w' := by
  have HBB := Lib.hid (below_alloc1 w (momO x t))
  unfold momV
  by_cases hc : x.hh < 12
  · rw [if_pos hc]
    go_enter Tryd.func24, Tryd.ntmps24
    go_wp2_with fail
    go_ret
    exact ⟨rfl, HBB.out⟩
  · rw [if_neg hc]
    have hc' : 12 ≤ x.hh := by omega
    go_enter Tryd.func24, Tryd.ntmps24
    go_wp2_with fail
    go_ret
    exact ⟨rfl, HBB.out⟩
set_option maxRecDepth 100000 in
set_option maxHeartbeats 4000000 in
theorem part_n (x : DateZ) (t : Int) (w : World)  : Calls Tryd.prog 24 #[momV x t, .int .u8 110] w fun e w' => e = .returned (.string ⟨([10] : List UInt8).toArray⟩) ∧ Below w.heap.size w w' := by
  have HBB := Lib.hid (below_alloc1 w (momO x t))
  unfold momV
  go_enter Tryd.func24, Tryd.ntmps24
  go_wp2_with fail
  go_ret
  exact ⟨rfl, HBB.out⟩
set_option maxRecDepth 100000 in
set_option maxHeartbeats 4000000 in
theorem part_t (x : DateZ) (t : Int) (w : World)  : Calls Tryd.prog 24 #[momV x t, .int .u8 116] w fun e w' => e = .returned (.string ⟨([9] : List UInt8).toArray⟩) ∧ Below w.heap.size w w' := by
  have HBB := Lib.hid (below_alloc1 w (momO x t))
  unfold momV
  go_enter Tryd.func24, Tryd.ntmps24
  go_wp2_with fail
  go_ret
  exact ⟨rfl, HBB.out⟩
set_option maxRecDepth 100000 in
set_option maxHeartbeats 4000000 in
theorem part_z (x : DateZ) (t : Int) (w : World)  : Calls Tryd.prog 24 #[momV x t, .int .u8 122] w fun e w' => e = .returned (.string ⟨([43, 48, 48, 48, 48] : List UInt8).toArray⟩) ∧ Below w.heap.size w w' := by
  have HBB := Lib.hid (below_alloc1 w (momO x t))
  unfold momV
  go_enter Tryd.func24, Tryd.ntmps24
  go_wp2_with fail
  go_ret
  exact ⟨rfl, HBB.out⟩
set_option maxRecDepth 100000 in
set_option maxHeartbeats 4000000 in
theorem part_Zc (x : DateZ) (t : Int) (w : World)  : Calls Tryd.prog 24 #[momV x t, .int .u8 90] w fun e w' => e = .returned (.string ⟨([85, 84, 67] : List UInt8).toArray⟩) ∧ Below w.heap.size w w' := by
  have HBB := Lib.hid (below_alloc1 w (momO x t))
  unfold momV
  go_enter Tryd.func24, Tryd.ntmps24
  go_wp2_with fail
  go_ret
  exact ⟨rfl, HBB.out⟩
set_option maxRecDepth 100000 in
set_option maxHeartbeats 4000000 in
theorem part_pc (x : DateZ) (t : Int) (w : World)  : Calls Tryd.prog 24 #[momV x t, .int .u8 37] w fun e w' => e = .returned (.string ⟨([37] : List UInt8).toArray⟩) ∧ Below w.heap.size w w' := by
  have HBB := Lib.hid (below_alloc1 w (momO x t))
  unfold momV
  go_enter Tryd.func24, Tryd.ntmps24
  go_wp2_with fail
  go_ret
  exact ⟨rfl, HBB.out⟩
end Go.Proofs.YtelhbkfhalpniaaDoor

namespace Go.Proofs.YtelhbkfhalpniaaDoor
open Go.RowKit Go.Lib Go.Joins

theorem date_new (w : World) (x : DateZ) : (w.alloc (.cells #[.int .i64 x.y, .int .i64 x.m, .int .i64 x.d, .int .i64 x.hh, .int .i64 x.mm, .int .i64 x.ss, .int .i64 x.wk, .int .i64 x.yd] 32)).heap[w.heap.size]? = some (.cells #[.int .i64 x.y, .int .i64 x.m, .int .i64 x.d, .int .i64 x.hh, .int .i64 x.mm, .int .i64 x.ss, .int .i64 x.wk, .int .i64 x.yd] 32 (0, 0)) := heap_alloc_new w _
/-- What Text answers where the format isn't too long. -/
def textR (T : List UInt8) : List UInt8 × Int := if T.length ≤ 1024 then (T, 0) else ([], 3)
set_option maxRecDepth 100000 in
set_option maxHeartbeats 4000000 in
theorem textT_of (P : UInt8 → List UInt8) (S : ByteArray) (x : DateZ) (t : Int) (w : World) (hM : CalMem w) (hx : DateIs t x) (lo : -62135596800 ≤ t) (hi : t ≤ 253402300799) (hS : S.size ≤ 2048)
    (hP : ∀ d ∈ letL S.data.toList, (P d).length ≤ 1000 ∧ ∀ W, CalMem W → Calls Tryd.prog 24 #[momV x t, .int .u8 (d.toNat : Nat)] W fun e w' => e = .returned (.string ⟨(P d).toArray⟩) ∧ Below W.heap.size W w') :
    Calls Tryd.prog 6 #[.string S, .int .i64 t] w fun e w' => e = .returned (.tuple #[.string ⟨(textR (txL P S.data.toList)).1.toArray⟩, .int .i64 (textR (txL P S.data.toList)).2]) ∧ Below w.heap.size w w' := by
  have CO := of_yes t x w hx lo hi hM.ah
  have CT := fun (W : World) (hW : CalMem W) => text_of P S x t W hW (by omega) hP
  obtain ⟨L, hL⟩ : ∃ L, txL P S.data.toList = L := ⟨_, rfl⟩
  rw [hL] at CT ⊢
  obtain ⟨T, hT⟩ : ∃ T : ByteArray, (⟨L.toArray⟩ : ByteArray) = T := ⟨_, rfl⟩
  have hTs : T.size = L.length := by rw [← hT]; rfl
  rw [hT] at CT
  unfold momV at CT
  unfold dateV at CO
  have CO := Lib.hid CO
  have CT := Lib.hid CT
  have HM := Lib.hid hM
  have HT := Lib.hid hT
  have g2 : ¬ (2048 : Int) < (S.size : Int) := by omega
  clear hP hL hT hx hM
  go_enter Tryd.func6, Tryd.ntmps6
  go_wp2_with fail
  refine CO.out.mono ?_
  rintro e W3 ⟨rfl, h3⟩
  have HB3 := Lib.hid h3
  have HMd := Lib.hid (HM.out.below (h3.alloc h3.size (.cells #[.int .i64 x.y, .int .i64 x.m, .int .i64 x.d, .int .i64 x.hh, .int .i64 x.mm, .int .i64 x.ss, .int .i64 x.wk, .int .i64 x.yd] 32)) (Nat.le_refl _))
  clear h3
  go_wp2_with fail
  refine (CT.out _ HMd.out).mono ?_
  rintro e W4 ⟨rfl, h4⟩
  have HB4 := Lib.hid (first_bel (HB3.out.alloc HB3.out.size _) h4)
  clear h4
  by_cases hl : L.length ≤ 1024
  · have g3 : ¬ (1024 : Int) < (T.size : Int) := by omega
    have HR := Lib.hid (show textR L = (L, 0) from if_pos hl)
    go_wp2_with fail
    go_ret2
    refine ⟨by rw [HR.out, ← HT.out]; rfl, HB4.out⟩
  · have g3 : (1024 : Int) < (T.size : Int) := by omega
    have HR := Lib.hid (show textR L = ([], 3) from if_neg hl)
    go_wp2_with fail
    go_ret2
    refine ⟨by rw [HR.out]; rfl, HB4.out⟩
end Go.Proofs.YtelhbkfhalpniaaDoor

namespace Go.Proofs.YtelhbkfhalpniaaDoor
open Go.RowKit Go.Lib Go.Joins

/-- The number that a word is. -/
def wholeZ (l : List UInt8) : Option Int := if l.length ≤ 7 then Lib.atoi l else none
set_option maxRecDepth 100000 in
set_option maxHeartbeats 2000000 in
theorem whole_any (S : ByteArray) (w : World) (hM : CalMem w) (hs : S.size ≤ 9223372036854775806) : Calls Tryd.prog 16 #[.string S] w fun e w' => e = .returned (.tuple #[.int .i64 ((wholeZ S.data.toList).getD 0), .bool (wholeZ S.data.toList).isSome]) ∧ Below w.heap.size w w' := by
  have hl : S.data.toList.length = S.size := rfl
  by_cases h7 : S.size ≤ 7
  · have g7 : ¬ (7 : Int) < (S.size : Int) := by omega
    have hw : wholeZ S.data.toList = Lib.atoi S.data.toList := if_pos (by omega)
    rw [hw]
    cases ha : Lib.atoi S.data.toList with
    | some v =>
      have C : Calls Tryd.prog 41 #[.string S] w fun e w' => e = .returned (.tuple #[.int .i64 v, .nilIface]) ∧ Below w.heap.size w w' := (Tryd.strconv_Atoi S v (by omega) ha w).mono fun _ _ ⟨a, t, hb⟩ => ⟨a, hb ▸ below_bytesWorld w.heap.size w 5 t (Nat.le_refl _)⟩
      have C := Lib.hid C
      clear ha hw hM hl
      go_enter Tryd.func16, Tryd.ntmps16
      go_wp2_with fail
      refine C.out.mono ?_
      rintro e W3 ⟨rfl, h3⟩
      have HB3 := Lib.hid h3
      clear h3
      go_wp2_with fail
      go_quiet (fail)
      go_wp2_with fail
      go_ret2
      exact ⟨rfl, cal_drewN HB3.out _⟩
    | none =>
      obtain ⟨tp, p, hv⟩ := hM.err
      have C := Any.strconv_Atoi_err_var (ρ := Tryd.laysC172_ren) Tryd.laysC172 S (by omega) ha tp p w hv
      have C := Lib.hid C
      clear ha hw hM hl
      go_enter Tryd.func16, Tryd.ntmps16
      go_wp2_with fail
      refine C.out.mono ?_
      rintro e W3 ⟨N, rfl, _, _, h3⟩
      have HB3 := Lib.hid h3
      clear h3
      go_wp2_with fail
      go_quiet (fail)
      go_wp2_with fail
      go_ret2
      exact ⟨rfl, cal_drewN HB3.out _⟩
  · have g7 : (7 : Int) < (S.size : Int) := by omega
    have hw : wholeZ S.data.toList = none := if_neg (by omega)
    rw [hw]
    go_enter Tryd.func16, Tryd.ntmps16
    go_wp2_with fail
    go_ret2
    exact ⟨rfl, Below.refl _ _⟩
end Go.Proofs.YtelhbkfhalpniaaDoor

namespace Go.Proofs.YtelhbkfhalpniaaDoor
open Go.RowKit Go.Lib Go.Joins

/-- A blank of a written time. -/
def blkB (b : UInt8) : Bool := b == 32 || b == 9 || b == 10
/-- One word, read: its number, and what is left. -/
def pstep (l : List UInt8) : Option (Int × List UInt8) :=
  (wholeZ ((l.dropWhile blkB).takeWhile fun b => !blkB b)).map fun v => (v, (l.dropWhile blkB).dropWhile fun b => !blkB b)
/-- So many words more. -/
def parseN : Nat → List Int → List UInt8 → Option (List Int × List UInt8)
  | 0, ns, l => some (ns, l)
  | n + 1, ns, l => match pstep l with
    | none => none
    | some (v, r) => parseN n (ns ++ [v]) r
/-- The time that six numbers tell. -/
def parseZ (l : List UInt8) : Int := match parseN 6 [] l with
  | some ([y, m, d, hh, mm, ss], r) => if r.dropWhile blkB = [] then (if (atR y m d hh mm ss).2 = 0 then (atR y m d hh mm ss).1 else -1) else -1
  | _ => -1
theorem parseN_len : ∀ (n : Nat) (ns : List Int) (l : List UInt8) (ms : List Int) (r : List UInt8), parseN n ns l = some (ms, r) → ms.length = ns.length + n
  | 0, ns, l, ms, r, h => by
    injection h with h
    injection h with h1 h2
    subst h1
    rfl
  | n + 1, ns, l, ms, r, h => by
    rw [parseN] at h
    cases hp : pstep l with
    | none => rw [hp] at h; cases h
    | some q =>
      obtain ⟨v, q⟩ := q
      rw [hp] at h
      have := parseN_len n (ns ++ [v]) q ms r h
      rw [List.length_append] at this
      simp at this
      omega
def blanksB : ByteArray := ⟨#[32, 9, 10]⟩
theorem blk_has (b : UInt8) : blanksB.data.toList.contains b = blkB b := by
  unfold blkB blanksB
  simp only [List.contains_cons, List.contains_nil, Bool.or_false, Bool.or_assoc]
theorem trim_blk (l : List UInt8) : Lib.trimLeftS l blanksB.data.toList = l.dropWhile blkB := by
  unfold Lib.trimLeftS
  congr 1
  funext b
  exact blk_has b
/-- Where the word ends. -/
theorem idx_blk (l : List UInt8) : (Lib.indexAny l blanksB.data.toList = -1 ∧ l.takeWhile (fun b => !blkB b) = l ∧ l.dropWhile (fun b => !blkB b) = []) ∨ ∃ n : Nat, Lib.indexAny l blanksB.data.toList = n ∧ n < l.length ∧ l.takeWhile (fun b => !blkB b) = l.take n ∧ l.dropWhile (fun b => !blkB b) = l.drop n := by
  induction l with
  | nil => exact Or.inl ⟨rfl, rfl, rfl⟩
  | cons b l ih =>
    cases hb : blkB b with
    | true =>
      refine Or.inr ⟨0, ?_, by simp, ?_, ?_⟩
      · rw [Lib.indexAny, if_pos (by rw [blk_has]; exact hb)]; rfl
      · rw [List.takeWhile_cons, hb]; rfl
      · rw [List.dropWhile_cons, hb]; rfl
    | false =>
      rcases ih with ⟨h1, h2, h3⟩ | ⟨n, h1, h2, h3, h4⟩
      · refine Or.inl ⟨?_, ?_, ?_⟩
        · rw [Lib.indexAny, if_neg (by rw [blk_has, hb]; simp), h1]; rfl
        · rw [List.takeWhile_cons, hb, h2]; rfl
        · rw [List.dropWhile_cons, hb, h3]; rfl
      · refine Or.inr ⟨n + 1, ?_, by simp; omega, ?_, ?_⟩
        · rw [Lib.indexAny, if_neg (by rw [blk_has, hb]; simp), h1, if_neg (by rw [beq_iff_eq]; omega)]; rfl
        · rw [List.takeWhile_cons, hb, h3]; rfl
        · rw [List.dropWhile_cons, hb, h4]; rfl
theorem trimBlk (S : ByteArray) (w : World) : Calls Tryd.prog 14 #[.string S, .string blanksB] w fun e w' => e = .returned (.string ⟨(S.data.toList.dropWhile blkB).toArray⟩) ∧ Below w.heap.size w w' := by
  have h := Any.strings_TrimLeft_laid (ρ := Tryd.lays161_ren) Tryd.lays161 (by kernel_rfl) S blanksB w (by decide) (ascii_of_all (by decide))
  rw [trim_blk] at h
  exact h
/-- What strings.IndexAny answers of a text, at the blanks. -/
def IdxOK (S : ByteArray) : Prop := ∀ T : ByteArray, T.data.toList <:+ S.data.toList → ∀ W, Calls Tryd.prog 15 #[.string T, .string blanksB] W fun e w' => e = .returned (.int .i64 (Lib.indexAny T.data.toList blanksB.data.toList)) ∧ Below W.heap.size W w'
theorem idxOK_ascii (S : ByteArray) (h : ∀ b ∈ S.data.toList, b.toNat < 128) (hs : S.size < 4294967281) : IdxOK S := fun T hT W =>
  Tryd.strings_IndexAny_laid T blanksB W (by have := hT.length_le; have h1 : T.data.toList.length = T.size := rfl; have h2 : S.data.toList.length = S.size := rfl; omega) (by decide) (fun j b hj => h b (hT.subset (List.mem_of_getElem? hj))) (ascii_of_all (by decide))
/-- Six numbers in memory, the first ones read. -/
def numsA (ns : List Int) (k : Nat) : Array Value := ((ns ++ List.replicate (6 - k) 0).map (Value.int .i64)).toArray
theorem numsA_at {ns : List Int} {k : Nat} (h : ns.length = k) (hk : k < 6) : (numsA ns k)[k]? = some (.int .i64 0) := by
  subst h
  unfold numsA
  rw [List.getElem?_toArray, List.getElem?_map, List.getElem?_append_right (Nat.le_refl _), Nat.sub_self, List.getElem?_replicate]
  rw [if_pos (by omega)]
  rfl
theorem numsA_set {ns : List Int} {k : Nat} (v : Int) (h : ns.length = k) (hk : k < 6) : (numsA ns k).setIfInBounds k (.int .i64 v) = numsA (ns ++ [v]) (k + 1) := by
  subst h
  unfold numsA
  rw [List.setIfInBounds_toArray, ← List.map_set]
  congr 2
  rw [List.set_append_right _ _ (Nat.le_refl _), Nat.sub_self, List.append_assoc]
  congr 1
  rw [show 6 - ns.length = (6 - (ns.length + 1)) + 1 by omega, List.replicate_succ]
  rfl
structure PsSt (w wr : World) (B : Nat) (S T : ByteArray) (k : Nat) (ns : List Int) : Prop where
  len : ns.length = k
  k6 : k ≤ 6
  row : wr.heap[B]? = some (.cells (numsA ns k) 42 (0, 0))
  bel : Below B w wr
  mem : CalMem wr
  mem0 : CalMem w
  lim : w.heap.size ≤ B
  go : parseN (6 - k) ns T.data.toList = parseN 6 [] S.data.toList
  suf : T.data.toList <:+ S.data.toList
theorem PsSt.size {w wr : World} {B k : Nat} {S T : ByteArray} {ns : List Int} (h : PsSt w wr B S T k ns) : B < wr.heap.size := (Array.getElem?_eq_some_iff.1 h.row).1
theorem PsSt.below {w wr w2 : World} {B k : Nat} {S T : ByteArray} {ns : List Int} (h : PsSt w wr B S T k ns) (hb : Below wr.heap.size wr w2) : PsSt w w2 B S T k ns :=
  ⟨h.len, h.k6, (hb.block B h.size).trans h.row, h.bel.trans (hb.mono (Nat.le_of_lt h.size)), h.mem.below hb (Nat.le_refl _), h.mem0, h.lim, h.go, h.suf⟩
theorem PsSt.set {w wr : World} {B k : Nat} {S T T2 : ByteArray} {ns : List Int} (h : PsSt w wr B S T k ns) (hk : k < 6) (v : Int) (hp : pstep T.data.toList = some (v, T2.data.toList)) (hs : T2.data.toList <:+ T.data.toList) : PsSt w (wr.setCell ⟨B, k, none⟩ (.int .i64 v)) B S T2 (k + 1) (ns ++ [v]) := by
  have hr := block_setCell h.row (i := k) (.int .i64 v)
  rw [numsA_set v h.len hk] at hr
  have hg := h.go
  rw [show 6 - k = (6 - (k + 1)) + 1 by omega, parseN, hp] at hg
  have hb2 : Below B w (wr.setCell ⟨B, k, none⟩ (.int .i64 v)) := h.bel.setCell (p := ⟨B, k, none⟩) (Nat.le_refl _) _
  exact ⟨by rw [List.length_append, h.len]; rfl, hk, hr, hb2, h.mem0.below hb2 h.lim, h.mem0, h.lim, hg, hs.trans h.suf⟩
theorem pstep_some {l : List UInt8} {v : Int} (h : wholeZ ((l.dropWhile blkB).takeWhile fun b => !blkB b) = some v) : pstep l = some (v, (l.dropWhile blkB).dropWhile fun b => !blkB b) := by
  unfold pstep
  rw [h]
  rfl
theorem pstep_none {l : List UInt8} (h : wholeZ ((l.dropWhile blkB).takeWhile fun b => !blkB b) = none) : pstep l = none := by
  unfold pstep
  rw [h]
  rfl
theorem parseZ_no {S : List UInt8} (h : parseN 6 [] S = none) : parseZ S = -1 := by
  unfold parseZ
  rw [h]
theorem ba_slice (l : List UInt8) (i j : Nat) : (⟨l.toArray⟩ : ByteArray).extract i j = ⟨((l.take j).drop i).toArray⟩ := by
  apply ByteArray.ext
  apply Array.toList_inj.1
  rw [ByteArray.data_extract, Array.toList_extract]
  simp [List.extract, List.drop_take]
theorem drop_suffix' (p : UInt8 → Bool) (l : List UInt8) : l.dropWhile p <:+ l := List.dropWhile_suffix p
set_option maxRecDepth 100000 in
set_option maxHeartbeats 4000000 in
theorem calParse_any (S : ByteArray) (w : World) (hM : CalMem w) (hS : S.size ≤ 4611686018427387904) (hI : IdxOK S) : Calls Tryd.prog 8 #[.string S] w fun e w' => e = .returned (.int .i64 (parseZ S.data.toList)) ∧ Below w.heap.size w w' := by
  have hr := heap_alloc_new w (.cells #[.int .i64 0, .int .i64 0, .int .i64 0, .int .i64 0, .int .i64 0, .int .i64 0] 42)
  have hb := below_alloc1 w (.cells #[.int .i64 0, .int .i64 0, .int .i64 0, .int .i64 0, .int .i64 0, .int .i64 0] 42)
  obtain ⟨W2, hW2⟩ : ∃ W2, w.alloc (.cells #[.int .i64 0, .int .i64 0, .int .i64 0, .int .i64 0, .int .i64 0, .int .i64 0] 42) = W2 := ⟨_, rfl⟩
  rw [hW2] at hr hb
  obtain ⟨B, hB⟩ : ∃ B, w.heap.size = B := ⟨_, rfl⟩
  have ST0 := Lib.hid (show PsSt w W2 B S S 0 [] from ⟨rfl, by decide, by rw [← hB]; exact hr, hB ▸ hb, hM.below hb (Nat.le_refl _), hM, Nat.le_of_eq hB, rfl, List.suffix_refl _⟩)
  have HI := Lib.hid hI
  have HB := Lib.hid hB
  have HW2 := Lib.hid hW2
  have hSl : S.data.toList.length = S.size := rfl
  have HW := Lib.hid (fun (T : ByteArray) (W : World) (hW : CalMem W) (hT : T.size ≤ 9223372036854775806) => whole_any T W hW hT)
  clear hr hb hM hI hW2 hB
  go_enter Tryd.func8, Tryd.ntmps8
  go_wp2_with fail
  rw [HW2.out, HB.out]
  go_loopw [10, 0] (fun iv sv wr => ∃ (k : Nat) (T : ByteArray) (ns : List Int), iv = .int .i64 (k : Int) ∧ sv = .string T ∧ PsSt w wr B S T k ns) (fun iv _ _ => 6 - (RowKit.intOf iv).toNat)
  case atStart => exact ⟨0, S, [], rfl, rfl, ST0.out⟩
  case round =>
    obtain ⟨k, T, ns, rfl, rfl, st⟩ := hrel
    clear ST0
    have hk6 := st.k6
    have hTs : T.size ≤ S.size := by have h := st.suf.length_le; have h1 : T.data.toList.length = T.size := rfl; omega
    have ST := Lib.hid st
    obtain ⟨l1, hl1⟩ : ∃ l1, T.data.toList.dropWhile blkB = l1 := ⟨_, rfl⟩
    obtain ⟨T1, hT1⟩ : ∃ T1 : ByteArray, (⟨l1.toArray⟩ : ByteArray) = T1 := ⟨_, rfl⟩
    have hT1l : T1.data.toList = l1 := by rw [← hT1]
    have hT1s : T1.size = l1.length := by rw [← hT1l]; rfl
    have hs1 : l1 <:+ T.data.toList := hl1 ▸ drop_suffix' blkB T.data.toList
    have hs1l : l1.length ≤ T.size := hs1.length_le
    have CTr := (fun (W : World) => trimBlk T W)
    rw [hl1, hT1] at CTr
    unfold blanksB at CTr
    have CTr := Lib.hid CTr
    have HL1 := Lib.hid hl1
    have HT1 := Lib.hid hT1
    have HT1L := Lib.hid hT1l
    have HS1 := Lib.hid hs1
    clear st hl1 hT1 hT1l hs1
    by_cases hlt : k < 6
    · have CI := HI.out T1 (by rw [HT1L.out]; exact HS1.out.trans ST.out.suf)
      rw [HT1L.out] at CI
      unfold blanksB at CI
      go_wp2_with fail
      refine (CTr.out _).mono ?_
      rintro e W3 ⟨rfl, h3⟩
      have ST3 := Lib.hid (ST.out.below h3)
      clear h3
      have CI := Lib.hid CI
      go_wp2_with fail
      refine (CI.out _).mono ?_
      rintro e W4 ⟨rfl, h4⟩
      have ST4 := Lib.hid (ST3.out.below h4)
      clear h4 CI CTr ST3
      rcases idx_blk l1 with ⟨hi, ht, hd⟩ | ⟨n, hi, hn, ht, hd⟩
      · have hi' : Lib.indexAny l1 [32, 9, 10] = -1 := hi
        rw [hi']
        have ht2 : l1.take l1.length = l1.takeWhile (fun b => !blkB b) := by rw [ht, List.take_length]
        have hd2 : l1.drop l1.length = l1.dropWhile (fun b => !blkB b) := by rw [hd, List.drop_length]
        have hn : l1.length ≤ l1.length := Nat.le_refl _
        clear hi hi' ht hd
        obtain ⟨wd, hwd⟩ : ∃ wd : ByteArray, T1.extract 0 l1.length = wd := ⟨_, rfl⟩
        have hwl : wd.data.toList = l1.takeWhile (fun b => !blkB b) := by rw [← hwd, ← HT1.out, ba_slice, ← ht2]; simp
        obtain ⟨T2, hT2⟩ : ∃ T2 : ByteArray, ByteArray.empty = T2 := ⟨_, rfl⟩
        have hT2l : T2.data.toList = l1.dropWhile (fun b => !blkB b) := by
          rw [← hT2, ← hd2, List.drop_length]
          rfl
        have hwds : wd.size ≤ 9223372036854775806 := by
          have h1 : wd.data.toList.length = wd.size := rfl
          rw [hwl, ← ht2, List.length_take] at h1
          omega
        have CW := fun (W : World) (hW : CalMem W) => HW.out wd W hW hwds
        rw [hwl] at CW
        have HT2L := Lib.hid hT2l
        have e1 : (l1.length : Int) ≤ (T1.size : Int) := by omega
        have e0 : (0 : Int) ≤ (l1.length : Int) := by omega
        have hs2 : l1.dropWhile (fun b => !blkB b) <:+ T.data.toList := (drop_suffix' _ l1).trans HS1.out
        have HS2 := Lib.hid hs2
        clear hwl hT2l hwds ht2 hd2 hs2
        cases hz : wholeZ (l1.takeWhile fun b => !blkB b) with
        | none =>
          rw [hz] at CW
          have CW := Lib.hid CW
          have hno : parseZ S.data.toList = -1 := parseZ_no (by
            rw [← ST4.out.go, show 6 - k = (6 - (k + 1)) + 1 by omega, parseN, pstep_none (by rw [HL1.out]; exact hz)])
          have HNO := Lib.hid hno
          clear hz hno
          go_wp2_with fail
          with_reducible refine (CW.out _ ST4.out.mem).mono ?_
          rintro e W5 ⟨rfl, h5⟩
          have HB5 := Lib.hid (first_bel ST4.out.bel h5 (by have := ST4.out.bel.size; have := ST4.out.lim; have := HB.out; omega))
          clear h5
          go_wp2_with fail
          go_ret
          refine ⟨by rw [HNO.out]; rfl, ?_⟩
          rw [HB.out]
          exact HB5.out
        | some v =>
          rw [hz] at CW
          have CW := Lib.hid CW
          have hp : pstep T.data.toList = some (v, T2.data.toList) := by
            rw [HT2L.out, ← HL1.out]
            exact pstep_some (by rw [HL1.out]; exact hz)
          have HP := Lib.hid hp
          clear hz hp
          go_wp2_with fail
          with_reducible refine (CW.out _ ST4.out.mem).mono ?_
          rintro e W5 ⟨rfl, h5⟩
          have ST5 := Lib.hid (ST4.out.below h5)
          clear h5 ST4 ST
          have k0 := (cell_of_block ST5.out.row k).trans (numsA_at ST5.out.len hlt)
          have y0 := unfrozen_of_block ST5.out.row k
          go_wp2_with fail
          go_region_held3 (fun _ => True) (trivial) (fail)
          have HST := Lib.hid ((ST5.out.set (T2 := T2) hlt v HP.out (by rw [HT2L.out]; exact HS2.out)).below (Below.drew (Below.refl _ _)))
          clear ST5 k0 y0 hT2
          go_wp2_with fail
          go_roundw
          case rel => exact ⟨k + 1, T2, _, by go_num, rfl, HST.out⟩
          case measure => simp [RowKit.intOf]; omega
      · have hi' : Lib.indexAny l1 [32, 9, 10] = (n : Int) := hi
        rw [hi']
        obtain ⟨e, rfl⟩ : ∃ e, n = e := ⟨_, rfl⟩
        have ht2 := ht.symm
        have hd2 := hd.symm
        have hn := Nat.le_of_lt hn
        have g0 : ¬ (n : Int) < 0 := by omega
        clear hi hi' ht hd
        obtain ⟨wd, hwd⟩ : ∃ wd : ByteArray, T1.extract 0 n = wd := ⟨_, rfl⟩
        have hwl : wd.data.toList = l1.takeWhile (fun b => !blkB b) := by rw [← hwd, ← HT1.out, ba_slice, ← ht2]; simp
        obtain ⟨T2, hT2⟩ : ∃ T2 : ByteArray, T1.extract n l1.length = T2 := ⟨_, rfl⟩
        have hT2l : T2.data.toList = l1.dropWhile (fun b => !blkB b) := by
          rw [← hT2, ← HT1.out, ba_slice, ← hd2, List.take_length]
        have hwds : wd.size ≤ 9223372036854775806 := by
          have h1 : wd.data.toList.length = wd.size := rfl
          rw [hwl, ← ht2, List.length_take] at h1
          omega
        have CW := fun (W : World) (hW : CalMem W) => HW.out wd W hW hwds
        rw [hwl] at CW
        have HT2L := Lib.hid hT2l
        have e1 : (n : Int) ≤ (T1.size : Int) := by omega
        have e0 : (0 : Int) ≤ (n : Int) := by omega
        have hs2 : l1.dropWhile (fun b => !blkB b) <:+ T.data.toList := (drop_suffix' _ l1).trans HS1.out
        have HS2 := Lib.hid hs2
        clear hwl hT2l hwds ht2 hd2 hs2
        cases hz : wholeZ (l1.takeWhile fun b => !blkB b) with
        | none =>
          rw [hz] at CW
          have CW := Lib.hid CW
          have hno : parseZ S.data.toList = -1 := parseZ_no (by
            rw [← ST4.out.go, show 6 - k = (6 - (k + 1)) + 1 by omega, parseN, pstep_none (by rw [HL1.out]; exact hz)])
          have HNO := Lib.hid hno
          clear hz hno
          go_wp2_with fail
          with_reducible refine (CW.out _ ST4.out.mem).mono ?_
          rintro e W5 ⟨rfl, h5⟩
          have HB5 := Lib.hid (first_bel ST4.out.bel h5 (by have := ST4.out.bel.size; have := ST4.out.lim; have := HB.out; omega))
          clear h5
          go_wp2_with fail
          go_ret
          refine ⟨by rw [HNO.out]; rfl, ?_⟩
          rw [HB.out]
          exact HB5.out
        | some v =>
          rw [hz] at CW
          have CW := Lib.hid CW
          have hp : pstep T.data.toList = some (v, T2.data.toList) := by
            rw [HT2L.out, ← HL1.out]
            exact pstep_some (by rw [HL1.out]; exact hz)
          have HP := Lib.hid hp
          clear hz hp
          go_wp2_with fail
          with_reducible refine (CW.out _ ST4.out.mem).mono ?_
          rintro e W5 ⟨rfl, h5⟩
          have ST5 := Lib.hid (ST4.out.below h5)
          clear h5 ST4 ST
          have k0 := (cell_of_block ST5.out.row k).trans (numsA_at ST5.out.len hlt)
          have y0 := unfrozen_of_block ST5.out.row k
          go_wp2_with fail
          go_region_held3 (fun _ => True) (trivial) (fail)
          have HST := Lib.hid ((ST5.out.set (T2 := T2) hlt v HP.out (by rw [HT2L.out]; exact HS2.out)).below (Below.drew (Below.refl _ _)))
          clear ST5 k0 y0 hT2
          go_wp2_with fail
          go_roundw
          case rel => exact ⟨k + 1, T2, _, by go_num, rfl, HST.out⟩
          case measure => simp [RowKit.intOf]; omega
    · obtain rfl : k = 6 := by omega
      have hg := ST.out.go
      have hln := ST.out.len
      obtain ⟨y, m, d, hh, mm, ss, rfl⟩ : ∃ y m d hh mm ss, ns = [y, m, d, hh, mm, ss] := by
        match ns, hln with
        | [y, m, d, hh, mm, ss], _ => exact ⟨y, m, d, hh, mm, ss, rfl⟩
      have hpz : parseZ S.data.toList = if l1 = [] then (if (atR y m d hh mm ss).2 = 0 then (atR y m d hh mm ss).1 else -1) else -1 := by
        unfold parseZ
        rw [← hg]
        show (if T.data.toList.dropWhile blkB = [] then _ else _) = _
        rw [HL1.out]
      have HPZ := Lib.hid hpz
      clear hg hln hpz
      by_cases hnil : l1 = []
      · have hT1e : T1 = ⟨#[]⟩ := by rw [← HT1.out, hnil]
        have HP := Lib.hid (HPZ.out.trans (if_pos hnil))
        clear hnil HPZ
        subst hT1e
        go_wp2_with fail
        refine (CTr.out _).mono ?_
        rintro e W3 ⟨rfl, h3⟩
        have ST3 := Lib.hid (ST.out.below h3)
        clear h3
        have r0 := cell_of_block ST3.out.row 0
        have r1 := cell_of_block ST3.out.row 1
        have r2 := cell_of_block ST3.out.row 2
        have r3 := cell_of_block ST3.out.row 3
        have r4 := cell_of_block ST3.out.row 4
        have r5 := cell_of_block ST3.out.row 5
        replace r0 : W3.cell? ⟨B, 0, none⟩ = some (.int .i64 y) := r0
        replace r1 : W3.cell? ⟨B, 1, none⟩ = some (.int .i64 m) := r1
        replace r2 : W3.cell? ⟨B, 2, none⟩ = some (.int .i64 d) := r2
        replace r3 : W3.cell? ⟨B, 3, none⟩ = some (.int .i64 hh) := r3
        replace r4 : W3.cell? ⟨B, 4, none⟩ = some (.int .i64 mm) := r4
        replace r5 : W3.cell? ⟨B, 5, none⟩ = some (.int .i64 ss) := r5
        go_wp2_with fail
        have CA := Lib.hid (at_any y m d hh mm ss 0 0 W3 ST3.out.mem.ah)
        have CA := CA.out
        unfold dateV at CA
        obtain ⟨a, ha⟩ : ∃ a, (atR y m d hh mm ss).1 = a := ⟨_, rfl⟩
        obtain ⟨e0, he0⟩ : ∃ e0, (atR y m d hh mm ss).2 = e0 := ⟨_, rfl⟩
        rw [ha, he0] at CA
        have HPo := HP.out
        rw [ha, he0] at HPo
        have CA := Lib.hid CA
        clear ha he0 HP
        refine CA.out.mono ?_
        rintro e W4 ⟨rfl, h4⟩
        have HB4 := Lib.hid (first_bel ST3.out.bel h4 (by have := ST3.out.lim; have := HB.out; omega))
        clear h4 r0 r1 r2 r3 r4 r5
        by_cases hez : e0 = 0
        · rw [if_pos hez] at HPo
          have HPo := Lib.hid HPo
          subst hez
          go_wp2_with fail
          go_ret
          refine ⟨by rw [HPo.out]; rfl, ?_⟩
          rw [HB.out]
          exact HB4.out
        · rw [if_neg hez] at HPo
          have HPo := Lib.hid HPo
          go_wp2_with fail
          go_ret
          refine ⟨by rw [HPo.out]; rfl, ?_⟩
          rw [HB.out]
          exact HB4.out
      · have HP := Lib.hid (HPZ.out.trans (if_neg hnil))
        have hne : T1.toList.isEmpty = false := by
          rw [Lib.toList_data, HT1L.out]
          cases l1 with
          | nil => exact absurd rfl hnil
          | cons _ _ => rfl
        clear hnil HPZ
        go_wp2_with fail
        refine (CTr.out _).mono ?_
        rintro e W3 ⟨rfl, h3⟩
        have HB3 := Lib.hid (first_bel ST.out.bel h3 (by have := ST.out.lim; have := HB.out; omega))
        clear h3
        go_wp2_with fail
        go_ret
        refine ⟨by rw [HP.out]; rfl, ?_⟩
        rw [HB.out]
        exact HB3.out
end Go.Proofs.YtelhbkfhalpniaaDoor

namespace Go.Proofs.YtelhbkfhalpniaaDoor
open Go.RowKit Go.Lib Go.Joins

theorem ex_th : Mom ⟨2000, 2, 29, 0, 0, 0, 2, 60⟩ ⟨2000, 3, 2, 0, 0, 0, 4, 62⟩ 951782400 := by
  refine ⟨DateIs.ex, by decide, by decide, ?_⟩
  refine ⟨?_, ?_, ?_, ?_, ?_, ?_, ?_, ?_, ?_, ?_, ?_, ?_⟩ <;> decide
def exX : DateZ := ⟨2000, 2, 29, 0, 0, 0, 2, 60⟩
def exT : DateZ := ⟨2000, 3, 2, 0, 0, 0, 4, 62⟩
def exF : ByteArray := ⟨#[37, 70, 32, 37, 84, 32, 37, 97, 32, 37, 106, 32, 37, 86]⟩
def exS : List UInt8 := [50, 48, 48, 48, 45, 48, 50, 45, 50, 57, 32, 48, 48, 58, 48, 48, 58, 48, 48, 32, 84, 117, 101, 32, 48, 54, 48, 32, 48, 57]
def exP : ByteArray := ⟨#[50, 48, 48, 48, 32, 50, 32, 50, 57, 32, 48, 32, 48, 32, 48]⟩
theorem ex_text : txL (partZ exX exT 951782400) exF.data.toList = exS := by kernel_rfl
theorem ex_parse : parseZ exP.data.toList = 951782400 := by decide
theorem ex_parts (d : UInt8) (hd : d ∈ letL exF.data.toList) : (partZ exX exT 951782400 d).length ≤ 1000 ∧ ∀ W, CalMem W → Calls Tryd.prog 24 #[momV exX 951782400, .int .u8 (d.toNat : Nat)] W fun e w' => e = .returned (.string ⟨(partZ exX exT 951782400 d).toArray⟩) ∧ Below W.heap.size W w' := by
  have hM : Mom exX exT 951782400 := ex_th
  have hd : d = 70 ∨ d = 84 ∨ d = 97 ∨ d = 106 ∨ d = 86 := by
    have e : letL exF.data.toList = [70, 84, 97, 106, 86] := by decide
    rw [e] at hd
    simpa using hd
  rcases hd with rfl | rfl | rfl | rfl | rfl
  · exact ⟨of_decide_eq_true (by kernel_rfl), fun W hW => part_Fc hM W hW⟩
  · exact ⟨of_decide_eq_true (by kernel_rfl), fun W hW => part_Tc hM W hW⟩
  · exact ⟨of_decide_eq_true (by kernel_rfl), fun W hW => part_a exX 951782400 W hW hM.fair⟩
  · exact part_low hM 106 _ _ rfl
  · exact part_low hM 86 _ _ rfl
set_option maxRecDepth 100000 in
set_option maxHeartbeats 4000000 in
theorem calFixed_any (w : World) (hM : CalMem w) : Calls Tryd.prog 5 #[] w fun e w' => e = .returned (.bool true) ∧ Below w.heap.size w w' := by
  have CO := fun (W : World) (hW : CalMem W) => of_yes 951782400 exX W DateIs.ex (by decide) (by decide) hW.ah
  have CT := fun (W : World) (hW : CalMem W) => textT_of (partZ exX exT 951782400) exF exX 951782400 W hW DateIs.ex (by decide) (by decide) (by decide) ex_parts
  rw [ex_text] at CT
  have hR : textR exS = (exS, 0) := if_pos (by decide)
  rw [hR] at CT
  have CP := fun (W : World) (hW : CalMem W) => calParse_any exP W hW (by decide) (idxOK_ascii exP (by decide) (by decide))
  rw [ex_parse] at CP
  unfold exF exS at CT
  unfold exP at CP
  unfold dateV exX at CO
  have CO := Lib.hid CO
  have CT := Lib.hid CT
  have CP := Lib.hid CP
  have HM := Lib.hid hM
  clear hR hM
  go_enter Tryd.func5, Tryd.ntmps5
  go_wp2_with fail
  refine (CO.out _ HM.out).mono ?_
  rintro e W3 ⟨rfl, h3⟩
  have HB3 := Lib.hid h3
  have HMd := Lib.hid (HM.out.below (h3.alloc h3.size (.cells #[.int .i64 2000, .int .i64 2, .int .i64 29, .int .i64 0, .int .i64 0, .int .i64 0, .int .i64 2, .int .i64 60] 32)) (Nat.le_refl _))
  have hD := date_new W3 exX
  have HD := Lib.hid hD
  clear h3 hD
  go_wp2_with fail
  refine (CT.out _ HMd.out).mono ?_
  rintro e W4 ⟨rfl, h4⟩
  have HB4 := Lib.hid h4
  have HM4 := Lib.hid (HMd.out.below h4 (Nat.le_refl _))
  have hD4 := zero_still HD.out h4
  obtain ⟨q0, q1, q2, q3, q4, q5, q6, q7⟩ := date_facts (th := exX) hD4
  unfold exX at q0 q1 q2 q3 q4 q5 q6 q7
  clear h4 hD4
  go_wp2_with fail
  refine (CP.out _ HM4.out).mono ?_
  rintro e W5 ⟨rfl, h5⟩
  have HB5 := Lib.hid h5
  clear h5 q0 q1 q2 q3 q4 q5 q6 q7
  go_wp2_with fail
  go_ret
  exact ⟨rfl, first_bel (first_bel (HB3.out.alloc HB3.out.size _) HB4.out) HB5.out⟩
end Go.Proofs.YtelhbkfhalpniaaDoor

namespace Go.Proofs.YtelhbkfhalpniaaDoor
open Go.RowKit Go.Lib Go.Joins

theorem date_there {W : World} {g : Nat} {th : DateZ} (z : W.heap[g]? = some (.cells #[.int .i64 th.y, .int .i64 th.m, .int .i64 th.d, .int .i64 th.hh, .int .i64 th.mm, .int .i64 th.ss, .int .i64 th.wk, .int .i64 th.yd] 32 (0, 0))) (v : Int) : (W.setCell ⟨g, 0, none⟩ (.int .i64 v)).heap[g]? = some (.cells #[.int .i64 v, .int .i64 th.m, .int .i64 th.d, .int .i64 th.hh, .int .i64 th.mm, .int .i64 th.ss, .int .i64 th.wk, .int .i64 th.yd] 32 (0, 0)) := by
  have z := block_setCell z (i := 0) (.int .i64 v)
  simp only [List.setIfInBounds_toArray, List.set_cons_zero] at z
  exact z
end Go.Proofs.YtelhbkfhalpniaaDoor

namespace Go.Proofs.YtelhbkfhalpniaaDoor
open Go.RowKit Go.Lib Go.Joins

end Go.Proofs.YtelhbkfhalpniaaDoor

namespace Go.Proofs.YtelhbkfhalpniaaDoor
open Go.RowKit Go.Lib Go.Joins

/-- An array of strings that reads as these texts holds them. -/
theorem cells_of_strs {H : Type} {enc : TypeId × Value → H} {P : Program} {w : World} {base : Nat} {sp : Nat → Bool} {held : Bool} {fuel : Nat} {t e : TypeId} {n : Nat} {cs : List Value} {zs : List (List UInt8)} {p : List MemPlace}
    (ht : P.underlying t = some (.array n e)) (he : P.underlying e = some .string) (hce : P.cellsOf e = 1) (hct : P.cellsOf t = n)
    (h : DataW.trod enc P w base sp held fuel t cs = some (.agg (zs.map fun z => .lit (.string z)), p)) (i : Nat) (z : List UInt8) (hz : zs[i]? = some z) : cs[i]? = some (.string ⟨z.toArray⟩) := by
  cases fuel with
  | zero => simp [DataW.trod] at h
  | succ fuel =>
    simp only [DataW.trod, ht, hce, hct, Nat.mul_one] at h
    split at h
    · rename_i hl
      obtain ⟨xs, hm, hx⟩ := Option.map_eq_some_iff.1 h
      have hxs : xs.map (·.1) = zs.map fun z => (DataW.lit (.string z) : DataW H) := by
        have := congrArg Prod.fst hx
        simpa using this
      have hxl : xs.length = n := by simpa using mapM_length hm
      have hzl : zs.length = n := by
        have := congrArg List.length hxs
        simp at this
        omega
      have hi : i < n := by rw [← hzl]; exact (List.getElem?_eq_some_iff.1 hz).1
      obtain ⟨b, hb, hf⟩ := mapM_at hm i i (by simp [hi])
      obtain ⟨s, hc, hy, _⟩ := DataW.trod_string he hf
      have h1 : cs[i]? = some (.string s) := by
        have := congrArg (·[0]?) hc
        simpa [List.getElem?_take, List.getElem?_drop] using this
      have h2 : (xs.map (·.1))[i]? = some b.1 := by simp [hb]
      rw [hxs] at h2
      simp only [List.getElem?_map, hz, Option.map_some, Option.some.injEq] at h2
      rw [h1]
      rw [hy] at h2
      injection h2 with h2
      injection h2 with h2
      rw [h2, Lib.mk_data]
    · cases h
theorem calTail {P : Program} {x : String × DataW Unit} {l : List (String × DataW Unit)} {W : World} (h : laidMet P (x :: l) W) : laidMet P l W := by
  obtain ⟨ps, h1, h2, h3⟩ := h
  obtain ⟨n, d⟩ := x
  obtain ⟨g, t, cs, fuel, p, q, _, _, _, _, h4, rfl⟩ := h1
  exact ⟨q, h4, (List.nodup_append.1 h2).2.1, fun b off hp => h3 b off (List.mem_append_right _ hp)⟩
theorem strs_there {W : World} {n : String} {g : Nat} {t : TypeId} {k : Nat} {zs : List (List UInt8)} (h : Lib.VarReads Tryd.prog W n (.agg (zs.map fun z => .lit (.string z)))) (hg : Tryd.prog.globalNamed n = some g) (hty : (Tryd.prog.globals[g]?).map (·.type) = some t)
    (ht : Tryd.prog.underlying t = some (.array k 9)) (hct : Tryd.prog.cellsOf t = k) (i : Nat) (z : List UInt8) (hz : zs[i]? = some z) : W.cell? ⟨g, i, none⟩ = some (.string ⟨z.toArray⟩) := by
  obtain ⟨g', t', cs, fuel, p, hg', ht', hvar, hd⟩ := h
  obtain rfl := Option.some.inj (hg.symm.trans hg')
  obtain rfl := Option.some.inj (hty.symm.trans ht')
  have h1 := World.var?_cell hg hvar i
  rw [h1, ← Array.getElem?_toList]
  exact cells_of_strs ht Tryd.underlying9 (by kernel_rfl) hct hd i z hz
theorem star_es : "*" ++ "errors.errorString" = "*errors.errorString" := by decide
theorem row_es (u : TypeId) (h : Tryd.prog.typeName? 3 u = some "*errors.errorString") : u = 130 :=
  typeName_ptr_named (nm := "errors.errorString") (by rw [star_es]; kernel_rfl) (by kernel_rfl) (by decide) u (by rw [star_es]; exact h)
/-- WHAT A LAW's ROW GIVES: the tables. -/
theorem calmem_of {W : World} (h : laidMet Tryd.prog Rows.calTextsRow.laid W) : CalMem W := by
  have h2 := calTail (calTail h)
  have h5 := calTail (calTail (calTail h2))
  have h6 := calTail h5
  refine ⟨fun i hi => ?_, fun i hi => ?_, fun i hi => ?_, ?_, ?_⟩
  · have hT : Lib.TabIs Tryd.prog W "thresher/cal.ahead" .i64 ahTab := Lib.tabIs_of_head (g := 0) (t := 79) (e := 3) (n := 12) (by kernel_rfl) (by kernel_rfl) (by kernel_rfl) (by kernel_rfl) (by kernel_rfl) (by kernel_rfl) h6
    have h := hT.cell (g := 0) (by kernel_rfl) i hi
    rw [h]
    have hk : i = 0 ∨ i = 1 ∨ i = 2 ∨ i = 3 ∨ i = 4 ∨ i = 5 ∨ i = 6 ∨ i = 7 ∨ i = 8 ∨ i = 9 ∨ i = 10 ∨ i = 11 := by omega
    rcases hk with rfl | rfl | rfl | rfl | rfl | rfl | rfl | rfl | rfl | rfl | rfl | rfl <;> rfl
  · exact strs_there (zs := [wdN 0, wdN 1, wdN 2, wdN 3, wdN 4, wdN 5, wdN 6]) (t := 80) (k := 7) (Lib.laidMet.reads h (.tail _ (.tail _ (.tail _ (.tail _ (.tail _ (.tail _ (.tail _ (.head _))))))))) (by kernel_rfl) (by kernel_rfl) (by kernel_rfl) (by kernel_rfl) i (wdN i) (by
      have hk : i = 0 ∨ i = 1 ∨ i = 2 ∨ i = 3 ∨ i = 4 ∨ i = 5 ∨ i = 6 := by omega
      rcases hk with rfl | rfl | rfl | rfl | rfl | rfl | rfl <;> rfl)
  · exact strs_there (zs := [moN 0, moN 1, moN 2, moN 3, moN 4, moN 5, moN 6, moN 7, moN 8, moN 9, moN 10, moN 11]) (t := 81) (k := 12) (Lib.laidMet.reads h (.tail _ (.tail _ (.tail _ (.tail _ (.tail _ (.tail _ (.tail _ (.tail _ (.head _)))))))))) (by kernel_rfl) (by kernel_rfl) (by kernel_rfl) (by kernel_rfl) i (moN i) (by
      have hk : i = 0 ∨ i = 1 ∨ i = 2 ∨ i = 3 ∨ i = 4 ∨ i = 5 ∨ i = 6 ∨ i = 7 ∨ i = 8 ∨ i = 9 ∨ i = 10 ∨ i = 11 := by omega
      rcases hk with rfl | rfl | rfl | rfl | rfl | rfl | rfl | rfl | rfl | rfl | rfl | rfl <;> rfl)
  · have tab_is : (Rows.laid_internal_strconv_uint64pow10 : DataW Unit) = Lib.tabData .u64 Lib.pow10Tab := by rfl
    exact Lib.tabIs_of_head (g := 8) (t := 140) (e := 117) (n := 20) (by kernel_rfl) (by kernel_rfl) (by kernel_rfl) (by kernel_rfl) (by kernel_rfl) (by kernel_rfl) (show laidMet Tryd.prog (("internal/strconv.uint64pow10", Lib.tabData .u64 Lib.pow10Tab) :: _) W from tab_is ▸ h2)
  · obtain ⟨a, s, h1, _⟩ := laid_sentinel (g := 6) (tp := 130) (nm := "*errors.errorString") (text := [105, 110, 118, 97, 108, 105, 100, 32, 115, 121, 110, 116, 97, 120]) (te := 132) (ts := 9) (ti := 61) h5 (by kernel_rfl) (by kernel_rfl) Tryd.underlying61 row_es Tryd.underlying130 Tryd.underlying132 rfl rfl Tryd.underlying9 (by kernel_rfl) (by kernel_rfl)
    exact ⟨_, _, h1⟩
end Go.Proofs.YtelhbkfhalpniaaDoor
