/- Layer 1: the law UstrBytes, walked. -/
import Derived.Test.YthlhlaolanemfaaDoorUstrSb
import Derived.Test.YthlhlaolanemfaaDoorUstrIx
namespace Go.Proofs.YthlhlaolanemfaaDoor
open Go.RowKit Go.Lib Go.Shelf
attribute [local go_sem] Oper.semAt_some

def sumT (s : ByteArray) (l : List Nat) : Nat := (l.map fun k => (textB (cod s false (pl s false k))).size).sum
theorem encode_key (n : Nat) (a b b' c c' d e f g h : UInt8) : (if n < 128 then (⟨#[a]⟩ : ByteArray) else if n < 2048 then ⟨#[b, b']⟩ else if n < 65536 then ⟨#[c, c', d]⟩ else ⟨#[e, f, g, h]⟩).size ≤ 4 := by
  by_cases h1 : n < 128
  · rw [if_pos h1]; exact (by decide : 1 ≤ 4)
  rw [if_neg h1]
  by_cases h2 : n < 2048
  · rw [if_pos h2]; exact (by decide : 2 ≤ 4)
  rw [if_neg h2]
  by_cases h3 : n < 65536
  · rw [if_pos h3]; exact (by decide : 3 ≤ 4)
  rw [if_neg h3]; exact (by decide : 4 ≤ 4)
theorem encode_le4 (c : Int) : (Utf8.encode c).size ≤ 4 := by
  unfold Utf8.encode
  dsimp only
  split
  · exact encode_key _ _ _ _ _ _ _ _ _ _ _
  · exact encode_key _ _ _ _ _ _ _ _ _ _ _
theorem sumT_snoc (s : ByteArray) (l : List Nat) (k : Nat) : sumT s (l ++ [k]) = sumT s l + (textB (cod s false (pl s false k))).size := by simp [sumT]
theorem sumT_le (s : ByteArray) (h : ∀ k, (textB (cod s false (pl s false k))).size ≤ 4) : ∀ l, sumT s l ≤ 4 * l.length
  | [] => by simp [sumT]
  | a :: l => by
    have := sumT_le s h l; have := h a
    simp only [sumT, List.map_cons, List.sum_cons, List.length_cons] at *; omega
theorem sumT_range (s : ByteArray) : ∀ n, n ≤ cnt s false → sumT s (List.range n) = pl s false n
  | 0, _ => rfl
  | n + 1, h => by
    have hp : pl s false n < s.size := (cnt_spec s false n).2 (by omega)
    have ho := congrArg List.length (own_bytes s false _ hp)
    have hw := wid_in s false _ hp
    rw [List.length_take, List.length_drop] at ho
    rw [List.range_succ, sumT_snoc, sumT_range s n (by omega), pl_succ]
    have : (tx false (cod s false (pl s false n))).length = (textB (cod s false (pl s false n))).size := rfl
    have : s.data.toList.length = s.size := rfl
    omega
theorem sub_whole (s : ByteArray) : subB s true 1 ((s.size : Int) + 1) = s := by
  unfold subB
  rw [cnt_byte]
  by_cases h : s.size = 0
  · rw [if_pos (by omega)]
    apply ByteArray.ext
    apply Array.ext'
    symm
    apply List.eq_nil_of_length_eq_zero
    exact h
  · rw [if_neg (by omega), show (max (1 : Int) 1 - 1).toNat = 0 by omega, show (min ((s.size : Int) + 1) ((s.size : Int) + 1) - 1).toNat = s.size by omega, pl_byte s _ (Nat.le_refl _), pl_byte s _ (Nat.zero_le _)]
    apply ByteArray.ext
    simp
theorem bytes_idx (s t : ByteArray) (r : Nat) (h : IsIdx (s ++ t) t true r) : if t.toList = [] then r = 0 else 1 ≤ r ∧ r ≤ s.size + 1 := by
  have hst : (s ++ t).size = s.size + t.size := ByteArray.size_append
  have htl : t.toList.length = t.size := by rw [Lib.toList_data]; rfl
  have hstand : Stands (s ++ t) t s.size := by
    refine ⟨by omega, ?_⟩
    rw [ByteArray.data_append, Array.toList_append, List.drop_left' (by rfl)]
    exact List.take_length
  split
  · rename_i he
    rw [he] at htl
    have h0 : t.size = 0 := by simpa using htl.symm
    rcases h with h | h
    · exact h.1
    · omega
  · rename_i he
    have h0 : 0 < t.size := by
      rcases Nat.eq_zero_or_pos t.size with h0 | h0
      · exact absurd (List.eq_nil_of_length_eq_zero (htl.trans h0)) he
      · exact h0
    rcases h with ⟨_, h | h⟩ | ⟨_, k, rfl, hk, hs, hl⟩
    · omega
    · exact absurd (by rw [pl_byte _ _ (by omega)]; exact hstand) (h s.size (by rw [cnt_byte]; omega))
    · refine ⟨by omega, ?_⟩
      by_cases hc : s.size < k
      · exact absurd (by rw [pl_byte _ _ (by omega)]; exact hstand) (hl s.size hc)
      · omega
theorem push3 (h : Array Obj) (a b c : Obj) (H : Array Obj) (hH : H = ((h.push a).push b).push c) :
    H.size = h.size + 3 ∧ H[h.size]? = some a ∧ H[h.size + 1]? = some b ∧ H[h.size + 1 + 1]? = some c := by
  subst hH
  simp only [Array.getElem?_push, Array.size_push]
  refine ⟨trivial, ?_, ?_, ?_⟩
  all_goals
    repeat' split
  all_goals first | rfl | (exfalso; omega) | simp_all

set_option maxRecDepth 100000 in
set_option maxHeartbeats 2000000 in
theorem ustrBytes_in (s t : ByteArray) (w : World) (hs : s.size ≤ 1048576) (hts : t.size ≤ 1048576) (hT : Utf8Tabs 0 1 w) :
    CallsIn Fence.wide 10 Tryd.prog 10 #[.string s, .string t] w fun e w' => e = .returned (.bool true) ∧ Below w.heap.size w w' := by
  have hcl := cnt_le s false
  have CF := Lib.hid (fixed_any w hT)
  refine callsIn_of_wp_marks Tryd.func10 rfl trivial ?_ rfl
  simp only [Tryd.ntmps10, List.size_toArray, List.length_cons, List.length_nil, Nat.reduceAdd, Nat.reduceSub, Array.replicate_succ, Array.replicate_zero, List.push_toArray, List.append_toArray, List.nil_append, List.cons_append]
  gi_wp2_with fail
  refine ⟨trivial, (callsIn_wide.2 CF.out).mono ?_⟩
  rintro e W0 ⟨rfl, hW⟩
  have hB0 := hW
  have hszW := hW.size
  clear hW
  gi_wp2_with fail
  refine ⟨trivial, (callsIn_wide.2 (all_any _ _ _)).mono ?_⟩
  rintro e W1 ⟨rfl, hW⟩
  simp only [World.size_alloc]
  obtain ⟨hsz, x5, xa, xb⟩ := push3 W0.heap (.cells #[.int .i64 0] 3) (.cells #[.string s] 9) (.cells #[.bool false] 4) W1.heap (by rw [← hW]; rfl)
  have hb0 : Below w.heap.size w W1 := by
    rw [← hW]
    exact (((hB0.alloc (by omega) _).alloc (by simp; omega) _).alloc (by simp; omega) _)
  have hTW : Utf8Tabs 0 1 W1 := tabs_below hT hb0 (Nat.le_refl _)
  clear hW
  have htl : ∀ k, (textB (cod s false (pl s false k))).size ≤ 4 := fun k => by
    unfold textB
    split
    · exact (by decide : 1 ≤ 4)
    split
    · exact encode_le4 _
    · exact (by decide : 0 ≤ 4)
  gi_wp2
  refine wpIn_rangeFunc_ownF rfl (by omega) (gf := 34) (lb := #[.pointer (some ⟨W0.heap.size + 1, 0, none⟩), .pointer (some ⟨W0.heap.size + 1 + 1, 0, none⟩)]) rfl trivial (enters_of Tryd.func34 (by kernel_rfl) rfl)
      (all_stops 9 (by omega) s false (W0.heap.size + 1) (W0.heap.size + 1 + 1) W1 (by omega) (Boxed.cell xa) (Boxed.cell xb) hTW) KeepsAt.trans
      (fun W l o o' hl _ _ _ => KeepsAt.putObj W1.heap.size (fun c hc => by have := tabs_lt hTW; simp at hc; omega) W l o' hl) (Below.refl _ _) (fun _ => rfl)
      (fun pre W => Boxed W W0.heap.size 3 (.int .i64 (sumT s pre : Nat)) ∧ (W0.heap.size + 3 ≤ W.heap.size ∧ Below w.heap.size w W))
      (fun c pre W => False) ?hI ?hIx ⟨x5, by omega, hb0⟩
      (fun k => { tmps := #[.string s, .string t, undef, undef, .bool false, .pointer (some ⟨W0.heap.size, 0, none⟩), undef, .int .i64 (cod s false (pl s false k)), undef, .bool true, .bool false, .string s, .func (.func 34) #[] #[.pointer (some ⟨W0.heap.size + 1, 0, none⟩), .pointer (some ⟨W0.heap.size + 1 + 1, 0, none⟩)], .int .i64 (pl s false k), .int .i64 (cod s false (pl s false k)), undef, undef, undef, undef, undef, undef, undef, undef, undef, undef, undef, undef, undef, undef, undef, undef, undef, undef, undef, undef, undef, undef, undef, undef, undef, undef, undef, undef, undef, undef, undef, undef, undef, undef, undef, undef, undef, undef, undef, undef, undef, undef, undef, undef, undef, undef, undef, undef, undef, undef, undef, undef, undef], defers := [] }) ?assign ?body ?done ?stop
  case stop => intro D c pre W _ _ h; exact h.elim
  case assign =>
      intro l k W K hK
      gi_wp2
      exact hK
  case hI =>
      exact OwnFrom.and (Own.from (boxed_own _ _ (fun pre : List Nat => .int .i64 (sumT s pre : Nat))) _) (OwnFrom.and (fun _ A B row hs hg _ => by have := hg.size; omega) (ownFrom_below (Nat.le_refl _) (by omega)))
  case hIx =>
      rintro c pre A B row h _ _
      exact h.elim
  case body =>
      rintro l pre k W ⟨y5, hz, hB⟩ hlen
      have c5 := y5.cell
      have f5 := y5.frozen
      have hkl := htl k
      have hsl := sumT_le s htl pre
      have HSN := Lib.hid (sumT_snoc s pre k)
      obtain ⟨M, hM⟩ : ∃ M, sumT s pre = M := ⟨_, rfl⟩
      rw [hM] at c5 HSN y5 hsl
      obtain ⟨T, hTx⟩ : ∃ T, textB (cod s false (pl s false k)) = T := ⟨_, rfl⟩
      have hcb := cod_le s false (pl s false k)
      have TX := Lib.hid (fun (X : World) => text_any (cod s false (pl s false k)) X (by omega))
      rw [hTx] at hkl HSN TX
      have HY := Lib.hid y5
      have HB := Lib.hid hB
      clear y5 hB hM hTx x5 xa xb hb0 hTW hB0 CF htl
      have hmx : Tryd.prog.follows .mixedOrders = true := by kernel_rfl
      gi_wp2_with fail
      gi_region_with_o (refine ⟨trivial, ?_⟩; gi_at_call 14; refine (CallsIn.inRound l (callsIn_wide.2 (TX.out _))).mono ?_; rintro e W2 ⟨rfl, hb2⟩; have hb3 := (Below.refl W.heap.size W).drew.trans hb2; have c52 := (hb3.cell (p := ⟨W0.heap.size, 0, none⟩) (lt_of_cell c5)).trans c5; have f52 := (hb3.frozen (p := ⟨W0.heap.size, 0, none⟩) (lt_of_cell c5)).trans f5)
      all_goals gi_wp2
      all_goals
        obtain ⟨q1, q2, q3⟩ := body_end hb3 W0.heap.size 0 [Value.int .i64 ((M : Int) + T.size)]
        have hwr : IntKind.i64.wrap ((M : Int) + T.size) = (M : Int) + T.size := IntWalk.i64_in _ (by omega)
        rw [hwr]
        have hse : W2.setCells W0.heap.size 0 [Value.int .i64 ((M : Int) + T.size)] = W2.setCell ⟨W0.heap.size, 0, none⟩ (.int .i64 ((M : Int) + T.size)) := rfl
        rw [hse] at q1 q2 q3
        have z5 := (Boxed.below HY.out hb3 (by omega)).set (.int .i64 ((M : Int) + T.size))
        have e5 : (((M + T.size : Nat) : Int)) = (M : Int) + T.size := by omega
        rw [← e5] at z5
        refine ⟨q1, fun c hc => ?_, ⟨by rw [HSN.out]; rw [← e5]; exact z5, by have := q1.size; omega, HB.out.trans (q3 _ (by omega) (by omega))⟩⟩
        have := tabs_lt hT
        simp only [List.mem_cons, List.not_mem_nil, or_false] at hc
        exact q2 _ (by omega) (by omega)
  case done =>
      rintro D xs W hD rfl ⟨y5, hz, hB⟩ hK
      rw [sumT_range s _ (Nat.le_refl _), pl_cnt] at y5
      have HB := Lib.hid hB
      have HK := Lib.hid hK
      have HT := Lib.hid hT
      have HY := Lib.hid y5
      have hst : (s ++ t).size = s.size + t.size := ByteArray.size_append
      have IX := Lib.hid (fun (X : World) h => index_any (s ++ t) t true X (by omega) hts h)
      have LN := Lib.hid (fun (X : World) => len_any s true X (by omega))
      have SB := Lib.hid (fun (X : World) h => sub_in s 1 ((s.size : Int) + 1) true X hs h)
      clear hB hK hT y5 x5 xa xb hb0 hTW hB0 CF htl
      gi_wp2_with fail
      refine ⟨trivial, (callsIn_wide.2 (IX.out _ (tabs_below HT.out HB.out (Nat.le_refl _)))).mono ?_⟩
      rintro e W2 ⟨⟨r, rfl, hr⟩, hb2⟩
      have HB2 := Lib.hid (HB.out.trans (hb2.mono HB.out.size))
      have HK2 := Lib.hid hb2
      have HR := Lib.hid hr
      clear hb2 hr
      have hidx : (if t.toList = [] then r = 0 else 1 ≤ r ∧ r ≤ s.size + 1) := bytes_idx s t r HR.out
      have HI := Lib.hid hidx
      have hsub := sub_whole s
      rw [hsub] at SB
      rw [cnt_byte] at LN
      clear hidx hsub HR IX
      gi_wp2_with fail
      refine ⟨trivial, (callsIn_wide.2 (LN.out _)).mono ?_⟩
      rintro e W3 ⟨rfl, hb3⟩
      have HB3 := Lib.hid (HB2.out.trans (hb3.mono HB2.out.size))
      have HK3 := Lib.hid (HK2.out.trans (hb3.mono HK2.out.size))
      have y3 := Boxed.below HY.out HK3.out (by omega)
      have c3 := y3.cell
      clear hb3 y3
      gi_wp2_with fail
      refine ⟨trivial, (callsIn_wide.2 (callsIn_wide.1 (SB.out _ (tabs_below HT.out HB3.out (Nat.le_refl _))))).mono ?_⟩
      rintro e W4 ⟨rfl, hb4⟩
      have HB4 := Lib.hid (HB3.out.trans (hb4.mono HB3.out.size))
      have HK4 := Lib.hid (HK3.out.trans (hb4.mono HK3.out.size))
      clear hb4
      have hDl : D < W.heap.size := (Array.getElem?_eq_some_iff.1 HK.out).1
      have hk4 := (HK4.out.block D hDl).trans HK.out
      have KD := Lib.hid hk4
      have hi := HI.out
      clear hk4 HI
      by_cases he : t.toList = []
      · have hemp : t.toList.isEmpty = true := by rw [he]; rfl
        rw [if_pos he] at hi
        subst hi
        clear he
        gi_wp2
        all_goals first | exact ⟨by simp, .inl ⟨_, _, rfl, run_takeDeferred KD.out, .bool true, by simp [results, Tryd.results10, go_sem], rfl, HB4.out.trans (belowK_b (w := w) (Nat.le_refl _) _ D _ _ (by omega) KD.out rfl rfl)⟩⟩ | (exfalso; rename_i hu _; cases hu; done) | (rename_i hu _; exact absurd (Option.some.inj hu) (by simp [undef])) | omega
      · have hemp : t.toList.isEmpty = false := by cases h : t.toList <;> simp_all
        rw [if_neg he] at hi
        obtain ⟨hi1, hi2⟩ := hi
        have hq1 : (1 : Int) ≤ r := by omega
        have hq2 : (r : Int) ≤ (s.size : Int) + 1 := by omega
        clear he
        gi_wp2
        all_goals first | exact ⟨by simp, .inl ⟨_, _, rfl, run_takeDeferred KD.out, .bool true, by simp [results, Tryd.results10, go_sem], rfl, HB4.out.trans (belowK_b (w := w) (Nat.le_refl _) _ D _ _ (by omega) KD.out rfl rfl)⟩⟩ | (exfalso; rename_i hu _; cases hu; done) | (rename_i hu _; exact absurd (Option.some.inj hu) (by simp [undef])) | omega
end Go.Proofs.YthlhlaolanemfaaDoor
