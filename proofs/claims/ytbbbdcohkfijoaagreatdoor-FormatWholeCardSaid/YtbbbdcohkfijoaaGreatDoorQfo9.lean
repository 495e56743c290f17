/- Several texts in one (Contracts of layer 1: Place; Contracts of layer 1: ahead; Contracts of layer 1: Sub; Contracts of layer 5: Text; the example of layer 5's laws; The example of layer 5's laws; the walk of the law FormatBack; The walk of the law FormatWide; The walk of the law NumDivides; The walk of the law FormatWhole). -/
import Derived.Test.YtbbbdcohkfijoaaGreatDoorQfo5
import Derived.Test.YtbbbdcohkfijoaaGreatDoorQfo7
import Derived.Test.YtbbbdcohkfijoaaGreatDoorQfo8
namespace Go.Proofs.YtbbbdcohkfijoaaGreatDoor
open Go.RowKit Go.Lib Go.Shelf
attribute [local go_sem] Oper.semAt_some

set_option maxRecDepth 100000 in
set_option maxHeartbeats 2000000 in
theorem place_in (s : ByteArray) (n : Int) (b : Bool) (w : World) (hs : s.size ≤ 1048576) (hT : Utf8Tabs 4 5 w) :
    CallsIn Fence.wide 10 Tryz.prog 236 #[.string s, .int .i64 n, .bool b] w fun e w' => e = .returned (.tuple #[.int .i64 (placeZ s b n).1, .bool (placeZ s b n).2]) ∧ Below w.heap.size w w' := by
  have hcl := cnt_le s b
  refine callsIn_of_wp_marks Tryz.func236 rfl trivial ?_ rfl
  simp only [Tryz.ntmps236, List.size_toArray, List.length_cons, List.length_nil, Nat.reduceAdd, Nat.reduceSub, Array.replicate_succ, Array.replicate_zero, List.push_toArray, List.append_toArray, List.nil_append, List.cons_append]
  by_cases h1 : n < 1
  · rw [placeZ, if_neg (by omega)]
    clear hT
    gi_wp2
    exact ⟨.tuple #[.int .i64 0, .bool false], by simp [results, Tryz.results236, go_sem], rfl, ((((Below.refl w.heap.size w).alloc (Nat.le_refl _) _).alloc (by simp) _).alloc (by simp; omega) _)⟩
  by_cases h2 : (s.size : Int) + 1 < n
  · rw [placeZ, if_neg (by omega)]
    clear hT
    gi_wp2
    exact ⟨.tuple #[.int .i64 0, .bool false], by simp [results, Tryz.results236, go_sem], rfl, ((((Below.refl w.heap.size w).alloc (Nat.le_refl _) _).alloc (by simp) _).alloc (by simp; omega) _)⟩
  cases b
  · gi_wp2_with fail
    refine ⟨trivial, (callsIn_wide.2 (all_any _ _ _)).mono ?_⟩
    rintro e W0 ⟨rfl, hW⟩
    simp only [World.size_alloc]
    obtain ⟨hsz, x4, x6, x7, x8, xa, xb⟩ := push6 w.heap (.cells #[.int .i64 n] 3) (.cells #[.int .i64 0] 3) (.cells #[.bool false] 4) (.cells #[.int .i64 1] 3) (.cells #[.string s] 9) (.cells #[.bool false] 4) W0.heap (by rw [← hW]; rfl)
    have hb0 : Below w.heap.size w W0 := by
      rw [← hW]
      exact ((((((Below.refl _ _).alloc (Nat.le_refl _) _).alloc (by simp) _).alloc (by simp; omega) _).alloc (by simp; omega) _).alloc (by simp; omega) _).alloc (by simp; omega) _
    have hTW : Utf8Tabs 4 5 W0 := tabs_below hT hb0 (Nat.le_refl _)
    clear hW
    gi_wp2
    refine wpIn_rangeFunc_ownF rfl (by omega) (gf := 321) (lb := #[.pointer (some ⟨w.heap.size + 4, 0, none⟩), .pointer (some ⟨w.heap.size + 4 + 1, 0, none⟩)]) rfl trivial (enters_of Tryz.func321 (by kernel_rfl) rfl)
      (all_stops 9 (by omega) s false (w.heap.size + 4) (w.heap.size + 4 + 1) W0 (by omega) (Boxed.cell xa) (Boxed.cell xb) hTW) KeepsAt.trans
      (fun W l o o' hl _ _ _ => KeepsAt.putObj W0.heap.size (fun c hc => by have := tabs_lt hTW; simp at hc; omega) W l o' hl) (Below.refl _ _) (fun _ => rfl)
      (fun pre W => (Boxed W w.heap.size 3 (.int .i64 n) ∧ Boxed W (w.heap.size + 1) 3 (.int .i64 0) ∧ Boxed W (w.heap.size + 1 + 1) 4 (.bool false) ∧ Boxed W (w.heap.size + 1 + 1 + 1) 3 (.int .i64 ((pre.length : Int) + 1))) ∧ (((pre.length : Int) < n ∧ w.heap.size + 6 ≤ W.heap.size) ∧ Below w.heap.size w W))
      (fun c pre W => c = .ret ∧ (∃ v : Nat, (Boxed W (w.heap.size + 1) 3 (.int .i64 v) ∧ Boxed W (w.heap.size + 1 + 1) 4 (.bool true)) ∧ (pre = List.range pre.length → (pre.length : Int) = n ∧ v = pl s false (pre.length - 1))) ∧ Below w.heap.size w W) ?hI ?hIx ⟨⟨x4, x6, x7, x8⟩, ⟨by simp; omega, by omega⟩, hb0⟩
      (fun k => { tmps := #[.string s, .int .i64 n, .bool false, undef, .pointer (some ⟨w.heap.size, 0, none⟩), undef, .pointer (some ⟨w.heap.size + 1, 0, none⟩), .pointer (some ⟨w.heap.size + 1 + 1, 0, none⟩), .pointer (some ⟨w.heap.size + 1 + 1 + 1, 0, none⟩), .int .i64 (pl s false k), .int .i64 n, .bool false, .bool false, .int .i64 n, .string s, .int .i64 s.size, .int .i64 (s.size + 1), .bool false, .bool false, .bool false, undef, undef, .string s, .func (.func 321) #[] #[.pointer (some ⟨w.heap.size + 1 + 1 + 1 + 1, 0, none⟩), .pointer (some ⟨w.heap.size + 1 + 1 + 1 + 1 + 1, 0, none⟩)], .int .i64 (pl s false k), .int .i64 (uCod s false (pl s false k)), undef, undef, undef, undef, undef, undef, undef, undef, undef, undef, undef], defers := [] }) ?assign ?body ?done ?stop
    case hI =>
      refine OwnFrom.and (OwnFrom.and (Own.from (boxed_own _ _ _) _) (OwnFrom.and (Own.from (boxed_own _ _ _) _) (OwnFrom.and (Own.from (boxed_own _ _ _) _) (Own.from (boxed_own _ _ (fun pre : List Nat => .int .i64 ((pre.length : Int) + 1))) _)))) (OwnFrom.and (fun _ A B row hs hg _ => ⟨hs.1, by have := hg.size; omega⟩) (ownFrom_below (Nat.le_refl _) (by omega)))
    case hIx =>
      rintro c pre A B row ⟨h1, ⟨v, ⟨h2, h3⟩, h4⟩, h5⟩ hg hr
      exact ⟨h1, ⟨v, ⟨boxed_own (β := Unit) (w.heap.size + 1) 3 (fun _ => .int .i64 v) () A B row h2 hg (fun r e => (hr r e).2), boxed_own (β := Unit) (w.heap.size + 1 + 1) 4 (fun _ => .bool true) () A B row h3 hg (fun r e => (hr r e).2)⟩, h4⟩, ownFrom_below (β := Unit) (Nat.le_refl _) (by omega) () A B row h5 hg hr⟩
    case assign =>
      intro l k W K hK
      gi_wp2
      exact hK
    case body =>
      rintro l pre k W ⟨⟨y4, y6, y7, y8⟩, ⟨hpn, hz⟩, hB⟩ hlen
      have c4 := y4.cell
      have c6 := y6.cell
      have f6 := y6.frozen
      have c7 := y7.cell
      have f7 := y7.frozen
      have c8 := y8.cell
      have f8 := y8.frozen
      have hl1 : (((pre ++ [k]).length : Nat) : Int) = (pre.length : Int) + 1 := by simp
      have hkn : pre ++ [k] = List.range (pre ++ [k]).length → k = pre.length := by
        intro he
        rw [List.length_append, List.length_cons, List.length_nil, Nat.zero_add] at he
        rw [List.range_succ] at he
        obtain ⟨_, h2⟩ := List.append_inj' he rfl
        simpa using h2
      have hl2 : (pre ++ [k]).length - 1 = pre.length := by simp
      obtain ⟨m, hm⟩ : ∃ m, pre.length = m := ⟨_, rfl⟩
      rw [hm] at c8 hl1 hl2 hkn hpn hlen y8
      have HL := Lib.hid hl1
      have HL2 := Lib.hid hl2
      have HKN := Lib.hid hkn
      have HY := Lib.hid (And.intro y4 (And.intro y6 (And.intro y7 y8)))
      have HB := Lib.hid hB
      have hple := pl_le s false k
      clear hl1 hl2 hkn y4 y6 y7 y8 hB hm x4 x6 x7 x8 xa xb hb0 hTW
      by_cases hmn : (m : Int) + 1 = n
      · have hmb : ((m : Int) + 1 == n) = true := by simp; omega
        have HMN := Lib.hid hmn
        clear hmn
        gi_wp2
        obtain ⟨z4, z6, z7, z8⟩ := HY.out
        exact ⟨(KeepsOthers.setCell _ _ _).trans (KeepsOthers.setCell _ _ _), rfl, ⟨pl s false k, ⟨(z6.set _).other (by omega) _, (z7.other (by omega) _).set _⟩, fun he => ⟨by rw [HL.out]; exact HMN.out, by rw [HL2.out, HKN.out he]⟩⟩, (HB.out.setCell (by show w.heap.size ≤ w.heap.size + 1; omega) _).setCell (by show w.heap.size ≤ w.heap.size + 1 + 1; omega) _⟩
      · have hmb : ((m : Int) + 1 == n) = false := by simp; omega
        gi_wp2
        obtain ⟨z4, z6, z7, z8⟩ := HY.out
        refine ⟨KeepsOthers.setCell _ _ _, KeepsAt.of_grown (grownBy_setCell' _ _ _) (fun c hc => ?_), ⟨z4.other (by omega) _, z6.other (by omega) _, z7.other (by omega) _, by rw [HL.out]; exact z8.set _⟩, ⟨by rw [HL.out]; omega, by simpa using hz⟩, HB.out.setCell (by show w.heap.size ≤ w.heap.size + 1 + 1 + 1; omega) _⟩
        have := tabs_lt hT
        simp only [List.mem_cons, List.not_mem_nil, or_false] at hc
        simp only [ne_eq, Option.some.injEq]
        omega
    case done =>
      rintro D xs W hD rfl ⟨⟨y4, y6, y7, y8⟩, ⟨hpn, hz⟩, hB⟩ hK
      rw [List.length_range] at y8 hpn
      have c4 := y4.cell
      have c6 := y6.cell
      have f6 := y6.frozen
      have c7 := y7.cell
      have f7 := y7.frozen
      have c8 := y8.cell
      have HB := Lib.hid hB
      have HY := Lib.hid (And.intro y6 y7)
      have HSZ := Lib.hid hsz
      by_cases hn : (cnt s false : Int) + 1 = n
      · have hmb : (((cnt s false : Nat) : Int) + 1 == n) = true := by simp; omega
        have hpz : placeZ s false n = (((s.size : Nat) : Int), true) := by
          rw [placeZ, if_pos (by omega), show (n - 1).toNat = cnt s false by omega, pl_cnt]
        have HPZ := Lib.hid hpz
        clear hn hpz y4 y6 y7 y8 hB hb0 hTW x4 x6 x7 x8 xa xb hsz
        gi_wp2
        have b6 := (HY.out.1.set (.int .i64 (s.size : Nat))).other (B' := w.heap.size + 1 + 1) (by omega) (.bool true)
        have b7 := (HY.out.2.other (B' := w.heap.size + 1) (by omega) (.int .i64 (s.size : Nat))).set (.bool true)
        have kD := ((KeepsOthers.setCell W ⟨w.heap.size + 1, 0, none⟩ (.int .i64 (s.size : Nat))).trans (KeepsOthers.setCell _ ⟨w.heap.size + 1 + 1, 0, none⟩ (.bool true))).same D _ hK rfl
        have hBY := (HB.out.setCell (p := ⟨w.heap.size + 1, 0, none⟩) (by show w.heap.size ≤ w.heap.size + 1; omega) (.int .i64 (s.size : Nat))).setCell (p := ⟨w.heap.size + 1 + 1, 0, none⟩) (by show w.heap.size ≤ w.heap.size + 1 + 1; omega) (.bool true)
        have hs' := HSZ.out
        have d6 := (b6.kept (grownBy_putObj' _ D (.deferred none)) (fun e => by have := Option.some.inj e; omega)).cell
        have d7 := (b7.kept (grownBy_putObj' _ D (.deferred none)) (fun e => by have := Option.some.inj e; omega)).cell
        refine ⟨by simp, .inl ⟨_, _, rfl, run_takeDeferred kD, .tuple #[.int .i64 (s.size : Nat), .bool true], ?_, by rw [HPZ.out], ?_⟩⟩
        · simp [results, Tryz.results236, go_sem, d6, d7]
        · exact hBY.trans (belowK_b (w := w) (Nat.le_refl _) _ D _ _ (by omega) kD rfl rfl)
      · have hmb : (((cnt s false : Nat) : Int) + 1 == n) = false := by simp; omega
        have hpz : placeZ s false n = (0, false) := by
          rw [placeZ, if_neg (by omega)]
        have HPZ := Lib.hid hpz
        clear hn hpz y4 y6 y7 y8 hB hb0 hTW x4 x6 x7 x8 xa xb hsz
        gi_wp2
        have b6 := (HY.out.1.set (.int .i64 0)).other (B' := w.heap.size + 1 + 1) (by omega) (.bool false)
        have b7 := (HY.out.2.other (B' := w.heap.size + 1) (by omega) (.int .i64 0)).set (.bool false)
        have kD := ((KeepsOthers.setCell W ⟨w.heap.size + 1, 0, none⟩ (.int .i64 0)).trans (KeepsOthers.setCell _ ⟨w.heap.size + 1 + 1, 0, none⟩ (.bool false))).same D _ hK rfl
        have hBY := (HB.out.setCell (p := ⟨w.heap.size + 1, 0, none⟩) (by show w.heap.size ≤ w.heap.size + 1; omega) (.int .i64 0)).setCell (p := ⟨w.heap.size + 1 + 1, 0, none⟩) (by show w.heap.size ≤ w.heap.size + 1 + 1; omega) (.bool false)
        have hs' := HSZ.out
        have d6 := (b6.kept (grownBy_putObj' _ D (.deferred none)) (fun e => by have := Option.some.inj e; omega)).cell
        have d7 := (b7.kept (grownBy_putObj' _ D (.deferred none)) (fun e => by have := Option.some.inj e; omega)).cell
        refine ⟨by simp, .inl ⟨_, _, rfl, run_takeDeferred kD, .tuple #[.int .i64 0, .bool false], ?_, by rw [HPZ.out], ?_⟩⟩
        · simp [results, Tryz.results236, go_sem, d6, d7]
        · exact hBY.trans (belowK_b (w := w) (Nat.le_refl _) _ D _ _ (by omega) kD rfl rfl)
    case stop =>
      rintro D c pre W hD ⟨k, hk, rfl⟩ ⟨rfl, ⟨v, ⟨y6, y7⟩, hv⟩, hB⟩ hK
      obtain ⟨hv1, hv2⟩ := hv (by simp)
      rw [List.length_range] at hv1 hv2
      have hpz : placeZ s false n = (((v : Nat) : Int), true) := by
        rw [placeZ, if_pos (by omega), hv2, show (n - 1).toNat = k - 1 by omega]
      have HPZ := Lib.hid hpz
      clear hpz hv hv1 hv2 hb0 hTW x4 x6 x7 x8 xa xb
      have HSZ := Lib.hid hsz
      have HB := Lib.hid hB
      clear hsz hB
      gi_wp2
      have hs' := HSZ.out
      have d6 := (y6.kept (grownBy_putObj' _ D (.deferred none)) (fun e => by have := Option.some.inj e; omega)).cell
      have d7 := (y7.kept (grownBy_putObj' _ D (.deferred none)) (fun e => by have := Option.some.inj e; omega)).cell
      refine ⟨by simp, .inl ⟨_, _, rfl, run_takeDeferred hK, .tuple #[.int .i64 (v : Nat), .bool true], ?_, by rw [HPZ.out], ?_⟩⟩
      · simp [results, Tryz.results236, go_sem, d6, d7]
      · exact HB.out.trans (belowK_b (w := w) (Nat.le_refl _) _ D _ _ (by omega) hK rfl rfl)
  · rw [cnt_byte] at hcl
    rw [placeZ, cnt_byte, if_pos (by omega), pl_byte s _ (by omega)]
    clear hT
    gi_wp2
    exact ⟨.tuple #[.int .i64 (n - 1), .bool true], by simp [results, Tryz.results236, go_sem], by simp; omega, ((((Below.refl w.heap.size w).alloc (Nat.le_refl _) _).alloc (by simp) _).alloc (by simp; omega) _)⟩
end Go.Proofs.YtbbbdcohkfijoaaGreatDoor

namespace Go.Proofs.YtbbbdcohkfijoaaGreatDoor
open Go.RowKit Go.Lib Go.Shelf
attribute [local go_sem] Oper.semAt_some

def aheadZ (s : ByteArray) (b : Bool) (n : Int) : Nat := if n < 1 then 0 else if (placeZ s b n).2 then (placeZ s b n).1.toNat else s.size

set_option maxRecDepth 100000 in
set_option maxHeartbeats 2000000 in
theorem ahead_in (s : ByteArray) (n : Int) (b : Bool) (w : World) (hs : s.size ≤ 1048576) (hT : Utf8Tabs 4 5 w) :
    CallsIn Fence.wide 10 Tryz.prog 181 #[.string s, .int .i64 n, .bool b] w fun e w' => e = .returned (.int .i64 (aheadZ s b n : Nat)) ∧ Below w.heap.size w w' := by
  refine callsIn_of_wp_marks Tryz.func181 rfl trivial ?_ rfl
  simp only [Tryz.ntmps181, List.size_toArray, List.length_cons, List.length_nil, Nat.reduceAdd, Nat.reduceSub, Array.replicate_succ, Array.replicate_zero, List.push_toArray, List.append_toArray, List.nil_append, List.cons_append]
  by_cases h1 : n < 1
  · rw [aheadZ, if_pos h1]
    clear hT
    gi_wp2
    exact ⟨.int .i64 0, by simp [results, Tryz.results181, go_sem], rfl, Below.refl w.heap.size w⟩
  · have PI := Lib.hid (place_in s n b w hs hT)
    clear hT
    rw [aheadZ, if_neg h1]
    gi_wp2_with fail
    refine ⟨trivial, (callsIn_wide.2 (callsIn_wide.1 PI.out)).mono ?_⟩
    rintro e W0 ⟨rfl, hW⟩
    have HW := Lib.hid hW
    clear hW PI
    have hz : (placeZ s b n).1 = max (placeZ s b n).1 0 := by
      have : 0 ≤ (placeZ s b n).1 := by rw [placeZ]; split <;> simp
      omega
    have HZ := Lib.hid hz
    clear hz
    cases hp : (placeZ s b n).2
    · gi_wp2
      all_goals exact ⟨.int .i64 (s.size : Nat), by simp [results, Tryz.results181, go_sem], rfl, HW.out⟩
    · gi_wp2
      exact ⟨.int .i64 (placeZ s b n).1, by simp [results, Tryz.results181, go_sem], by rw [← HZ.out], HW.out⟩
end Go.Proofs.YtbbbdcohkfijoaaGreatDoor

namespace Go.Proofs.YtbbbdcohkfijoaaGreatDoor
open Go.RowKit Go.Lib Go.Shelf
attribute [local go_sem] Oper.semAt_some

theorem aheadZ_pl (s : ByteArray) (b : Bool) (n : Int) : aheadZ s b n = pl s b (min (max n 1) (cnt s b + 1) - 1).toNat := by
  unfold aheadZ
  by_cases h1 : n < 1
  · rw [if_pos h1, show (min (max n 1) ((cnt s b : Int) + 1) - 1).toNat = 0 by omega]; rfl
  rw [if_neg h1]
  by_cases h2 : n ≤ cnt s b + 1
  · have e : placeZ s b n = (((pl s b (n - 1).toNat : Nat) : Int), true) := by rw [placeZ, if_pos ⟨by omega, h2⟩]
    rw [e, show (min (max n 1) ((cnt s b : Int) + 1) - 1).toNat = (n - 1).toNat by omega]; simp
  · have e : placeZ s b n = (0, false) := by rw [placeZ, if_neg (by omega)]
    rw [e, show (min (max n 1) ((cnt s b : Int) + 1) - 1).toNat = cnt s b by omega, pl_cnt]; simp

theorem sub_ahead (s : ByteArray) (b : Bool) (i j : Int) (h : i < j) : s.extract (aheadZ s b i) (aheadZ s b j) = subB s b i j := by
  rw [aheadZ_pl, aheadZ_pl]
  unfold subB
  by_cases hc : min j ((cnt s b : Int) + 1) ≤ max i 1
  · rw [if_pos hc, show (min (max j 1) ((cnt s b : Int) + 1) - 1).toNat = (min (max i 1) ((cnt s b : Int) + 1) - 1).toNat by omega]
    apply ByteArray.ext
    simp
  · rw [if_neg hc, show (min (max j 1) ((cnt s b : Int) + 1) - 1) = (min j ((cnt s b : Int) + 1) - 1) by omega, show (min (max i 1) ((cnt s b : Int) + 1) - 1) = (max i 1 - 1) by omega]

theorem sub_none (s : ByteArray) (b : Bool) (i j : Int) (h : j ≤ i) : subB s b i j = ⟨#[]⟩ := by
  unfold subB; rw [if_pos (by omega)]

set_option maxRecDepth 100000 in
set_option maxHeartbeats 2000000 in
theorem clone_in (s : ByteArray) (w : World) (hs : s.size ≤ 1048576) :
    CallsIn Fence.wide 10 Tryz.prog 123 #[.string s] w fun e w' => e = .returned (.string s) ∧ Below w.heap.size w w' := by
  have SC := Lib.hid (Tryz.stringslite_Clone s w (by omega))
  refine callsIn_of_wp_marks Tryz.func123 rfl trivial ?_ rfl
  simp only [Tryz.ntmps123, List.size_toArray, List.length_cons, List.length_nil, Nat.reduceAdd, Nat.reduceSub, Array.replicate_succ, Array.replicate_zero, List.push_toArray, List.append_toArray, List.nil_append, List.cons_append]
  gi_wp2_with fail
  refine ⟨trivial, (callsIn_wide.2 SC.out).mono ?_⟩
  rintro e W0 ⟨rfl, hW⟩
  gi_wp2
  exact ⟨.string s, by simp [results, Tryz.results123, go_sem], rfl, hW⟩

set_option maxRecDepth 100000 in
set_option maxHeartbeats 2000000 in
theorem sub_in (s : ByteArray) (i j : Int) (b : Bool) (w : World) (hs : s.size ≤ 1048576) (hT : Utf8Tabs 4 5 w) :
    CallsIn Fence.wide 10 Tryz.prog 122 #[.string s, .int .i64 i, .int .i64 j, .bool b] w fun e w' => e = .returned (.string (subB s b i j)) ∧ Below w.heap.size w w' := by
  refine callsIn_of_wp_marks Tryz.func122 rfl trivial ?_ rfl
  simp only [Tryz.ntmps122, List.size_toArray, List.length_cons, List.length_nil, Nat.reduceAdd, Nat.reduceSub, Array.replicate_succ, Array.replicate_zero, List.push_toArray, List.append_toArray, List.nil_append, List.cons_append]
  by_cases h1 : j ≤ i
  · rw [sub_none s b i j h1]
    clear hT
    gi_wp2
    exact ⟨.string ⟨#[]⟩, by simp [results, Tryz.results122, go_sem], rfl, Below.refl w.heap.size w⟩
  · have AI := Lib.hid (fun (n : Int) (W : World) (T : Utf8Tabs 4 5 W) => ahead_in s n b W hs T)
    have HT := Lib.hid hT
    have hij : aheadZ s b i ≤ aheadZ s b j := by
      rw [aheadZ_pl, aheadZ_pl]; exact pl_mono _ _ _ _ (by omega)
    have hjs : aheadZ s b j ≤ s.size := by rw [aheadZ_pl]; exact pl_le _ _ _
    have HE := Lib.hid (sub_ahead s b i j (by omega))
    have hse : (s.extract (aheadZ s b i) (aheadZ s b j)).size ≤ 1048576 := by rw [ByteArray.size_extract]; omega
    have CL := Lib.hid (fun (W : World) => clone_in (s.extract (aheadZ s b i) (aheadZ s b j)) W hse)
    clear hT hse
    gi_wp2_with fail
    refine ⟨trivial, (callsIn_wide.2 (callsIn_wide.1 (AI.out i _ HT.out))).mono ?_⟩
    rintro e W0 ⟨rfl, hW⟩
    have HW := Lib.hid hW
    clear hW
    gi_wp2_with fail
    refine ⟨trivial, (callsIn_wide.2 (callsIn_wide.1 (AI.out j _ (tabs_below HT.out HW.out (Nat.le_refl _))))).mono ?_⟩
    rintro e W1 ⟨rfl, hW⟩
    have HW1 := Lib.hid (HW.out.trans (hW.mono HW.out.size))
    clear hW
    gi_wp2_with fail
    refine ⟨trivial, (callsIn_wide.2 (callsIn_wide.1 (CL.out _))).mono ?_⟩
    rintro e W2 ⟨rfl, hW⟩
    gi_wp2
    all_goals exact ⟨.string (s.extract (aheadZ s b i) (aheadZ s b j)), by simp [results, Tryz.results122, go_sem], by rw [HE.out], HW1.out.trans (hW.mono HW1.out.size)⟩
end Go.Proofs.YtbbbdcohkfijoaaGreatDoor

namespace Go.Proofs.YtbbbdcohkfijoaaGreatDoor
open Go.RowKit Go.Lib

/-- What of a text is written, and how wide. -/
def cutT (pr : Int) (c : Nat) (s : ByteArray) (by' : Bool) : ByteArray := if c = 115 ∧ 0 ≤ pr then subB s by' 1 (pr + 1) else s
def textT (m : Bool) (wd pr : Int) (c : Nat) (s : ByteArray) (by' : Bool) : List UInt8 := fillL (cutT pr c s by').data.toList (wd - (cnt (cutT pr c s by') by' : Int)) m
theorem sub_size (s : ByteArray) (b : Bool) (i j : Int) : (subB s b i j).size ≤ s.size := by
  unfold subB
  split
  · exact Nat.zero_le _
  · rw [ByteArray.size_extract]
    omega
theorem cut_size (pr : Int) (c : Nat) (s : ByteArray) (b : Bool) : (cutT pr c s b).size ≤ s.size := by
  unfold cutT
  split
  · exact sub_size _ _ _ _
  · exact Nat.le_refl _
theorem verb_text {c : Nat} (h : c < 256) (hv : vText.contains c.toUInt8 = true) : c = 99 ∨ c = 115 := by
  have key : ∀ n : Fin 256, vText.contains (UInt8.ofNat n.val) = true → n.val = 99 ∨ n.val = 115 := by decide +kernel
  exact key ⟨c, h⟩ hv
set_option maxRecDepth 100000 in
set_option maxHeartbeats 8000000 in
theorem ftext_yes (m p b a z by' : Bool) (wd pr : Int) (c : Nat) (s : ByteArray) (w : World) (hs : s.size ≤ 1048576) (hc : c < 256) (hk : chkB wd pr c = true) (hv : vText.contains c.toUInt8 = true) (hT : Utf8Tabs 4 5 w) :
    Calls Tryz.prog 70 #[.agg #[.bool m, .bool p, .bool b, .bool a, .bool z, .int .i64 wd, .int .i64 pr, .int .u8 (c : Int)], .string s, .bool by'] w fun e w' => e = .returned (.tuple #[.string ⟨(textT m wd pr c s by').toArray⟩, .int .i64 0]) ∧ Below w.heap.size w w' := by
  obtain ⟨d0, d1, d2, d3⟩ := chk_bd hk
  have hcc := verb_text hc hv
  have cK := fun W => check_any m p b a z wd pr c W
  rw [hk, if_pos rfl] at cK
  have cA := fun W => among_any ⟨#[99, 115]⟩ c W
  replace cA : ∀ w : World, Calls Tryz.prog 73 #[.string ⟨#[99, 115]⟩, .int .u8 (c : Int)] w fun e w' => e = .returned (.bool (vText.contains c.toUInt8)) ∧ w = w' := cA
  rw [hv] at cA
  have cS := fun (W : World) h => callsIn_wide.1 (sub_in s 1 (pr + 1) by' W hs h)
  have cC := fun W => clone_str s W (by omega)
  obtain ⟨t, ht⟩ : ∃ t, cutT pr c s by' = t := ⟨_, rfl⟩
  have hts := cut_size pr c s by'
  rw [ht] at hts
  have hcl := cnt_le t by'
  have cL := fun W => len_any t by' W (by omega)
  obtain ⟨n, hn⟩ : ∃ n, cnt t by' = n := ⟨_, rfl⟩
  rw [hn] at cL hcl
  have hwr : IntKind.i64.wrap (wd - (n : Int)) = wd - (n : Int) := by rw [IntKind.wrap_i64]; omega
  have hwr2 : IntKind.i64.wrap (pr + 1) = pr + 1 := by rw [IntKind.wrap_i64]; omega
  have cF := fun W => fill_any t (wd - (n : Int)) m W (by omega) (by omega) (by omega)
  have hX : textT m wd pr c s by' = fillL t.data.toList (wd - (n : Int)) m := by unfold textT; rw [ht, hn]
  rw [hX]
  obtain ⟨X, hX⟩ : ∃ X : ByteArray, (⟨(fillL t.data.toList (wd - (n : Int)) m).toArray⟩ : ByteArray) = X := ⟨_, rfl⟩
  rw [hX] at cF ⊢
  have hS : (((c : Int) == 115) = true ∧ 0 ≤ pr ∧ subB s by' 1 (pr + 1) = t) ∨ (((c : Int) == 115) = false ∧ s = t) ∨ (((c : Int) == 115) = true ∧ pr < 0 ∧ s = t) := by
    unfold cutT at ht
    by_cases h1 : c = 115 ∧ 0 ≤ pr
    · rw [if_pos h1] at ht
      exact Or.inl ⟨by rw [beq_iff_eq]; omega, h1.2, ht⟩
    · rw [if_neg h1] at ht
      rcases hcc with h2 | h2
      · exact Or.inr (Or.inl ⟨by rw [beq_eq_false_iff_ne]; omega, ht⟩)
      · exact Or.inr (Or.inr ⟨by rw [beq_iff_eq]; omega, by omega, ht⟩)
  have CK := Lib.hid cK
  have CA := Lib.hid cA
  have CS := Lib.hid cS
  have CC := Lib.hid cC
  have CL := Lib.hid cL
  have CF := Lib.hid cF
  have HT := Lib.hid hT
  have FP := Lib.hid (Five.new w #[.bool m, .bool p, .bool b, .bool a, .bool z, .int .i64 wd, .int .i64 pr, .int .u8 (c : Int)] 35)
  have HB0 := Lib.hid ((Below.refl w.heap.size w).alloc (Nat.le_refl _) (.cells #[.bool m, .bool p, .bool b, .bool a, .bool z, .int .i64 wd, .int .i64 pr, .int .u8 (c : Int)] 35))
  obtain ⟨W1, hW1⟩ : ∃ W1, w.alloc (.cells #[.bool m, .bool p, .bool b, .bool a, .bool z, .int .i64 wd, .int .i64 pr, .int .u8 (c : Int)] 35) = W1 := ⟨_, rfl⟩
  rw [hW1] at FP HB0
  have HW1 := Lib.hid hW1
  clear cK cA cS cC cL cF hT hW1 hX hk hv hcc ht hn hs hts hcl d0 d1 d3
  have hle : w.heap.size ≤ W1.heap.size := HB0.out.size
  obtain ⟨B, hB⟩ : ∃ B, w.heap.size = B := ⟨_, rfl⟩
  rw [hB] at FP HB0 hle ⊢
  have HB := Lib.hid hB
  have HTW := Lib.hid (fun (W : World) (h : Below B w W) => tabs_below HT.out h (Nat.le_of_eq hB))
  clear hB
  rcases hS with ⟨hq, hp, hst⟩ | ⟨hq, rfl⟩ | ⟨hq, hp, rfl⟩
  all_goals
    obtain ⟨p0, p1, p2, p3, p4, p5, p6, p7⟩ := spec_cells FP.out
    go_enter Tryz.func70, Tryz.ntmps70
    go_wp2_with fail
    rw [HW1.out, HB.out]
    refine (CK.out _).mono ?_
    rintro e W2 ⟨rfl, h2⟩
    clear p0 p1 p2 p3 p4 p5 p6 p7
    obtain ⟨p0, p1, p2, p3, p4, p5, p6, p7⟩ := spec_cells (FP.out.below h2)
    have FP2 := Lib.hid (FP.out.below h2)
    have HB2 := Lib.hid (HB0.out.trans (h2.mono hle))
    have hle2 : B ≤ W2.heap.size := Nat.le_trans hle h2.size
    clear h2
    go_wp2_with fail
    refine (CA.out _).mono ?_
    rintro e w' ⟨rfl, rfl⟩
    go_wp2_with fail
  all_goals
    have HC3 := Lib.hid (fun (W : World) (h : Below W2.heap.size W2 W) => spec_cells (FP2.out.below h))
    first
    | (refine (CC.out _).mono ?_
       rintro e W3 ⟨rfl, h3⟩)
    | (refine (CS.out _ (HTW.out _ HB2.out)).mono ?_
       rintro e W3 ⟨rfl, h3⟩
       rw [hst])
    clear p0 p1 p2 p3 p4 p5 p6 p7
    obtain ⟨p0, p1, p2, p3, p4, p5, p6, p7⟩ := HC3.out _ h3
    have FP3 := Lib.hid (FP2.out.below h3)
    have HB3 := Lib.hid (HB2.out.trans (h3.mono hle2))
    have hle3 : B ≤ W3.heap.size := Nat.le_trans hle2 h3.size
    clear h3
    go_wp2_with fail
    have HCW := Lib.hid (fun (W : World) (h : Below W3.heap.size W3 W) => spec_cells (FP3.out.below h))
    have hR := Below.refl W3.heap.size W3
    go_region_held3 (fun w' => w'.cell? ⟨B, 0, none⟩ = some (.bool m) ∧ w'.cell? ⟨B, 1, none⟩ = some (.bool p) ∧ w'.cell? ⟨B, 2, none⟩ = some (.bool b) ∧ w'.cell? ⟨B, 3, none⟩ = some (.bool a) ∧ w'.cell? ⟨B, 4, none⟩ = some (.bool z) ∧ w'.cell? ⟨B, 5, none⟩ = some (.int .i64 wd) ∧ w'.cell? ⟨B, 6, none⟩ = some (.int .i64 pr) ∧ w'.cell? ⟨B, 7, none⟩ = some (.int .u8 (c : Int)))
      (first | (with_reducible exact S2) | (with_reducible exact S1) | go_keep)
      (first
      | (go_at_call 124; (with_reducible refine (CL.out _).mono ?_); rintro e W4 ⟨rfl, h4⟩; have b4 : Below W3.heap.size W3 W4 := ⟨h4.os, h4.tape, h4.output, h4.size, h4.block⟩; have S1 := HCW.out _ b4; clear h4)
      | (go_at_call 75; (with_reducible refine (CF.out _).mono ?_); rintro e W5 ⟨rfl, h5⟩; have b5 : Below W3.heap.size W3 W5 := b4.trans ((⟨h5.os, h5.tape, h5.output, h5.size, h5.block⟩ : Below W4.heap.size W4 W5).mono b4.size); have S2 := HCW.out _ b5; clear h5))
    all_goals
      have hBf := HB3.out.trans (b5.mono hle3)
      go_wp2_with fail
      go_ret2
      exact ⟨rfl, by first | exact hBf | exact ⟨hBf.os, hBf.tape, hBf.output, hBf.size, hBf.block⟩⟩
theorem decs_is {l : List UInt8} {n : Nat} (hd : Dec l) (hp : pv l = n) (h0 : 0 < l.length) (h1 : l[0] ≠ 48) : decs n = l := by
  rw [← hp, ← decs_strip (i := 0) hd h0 (fun j h => by omega) (Or.inr h1), List.drop_zero]
theorem fix_01 : fixP 4591870180066957722 6 false = [48, 46, 49, 48, 48, 48, 48, 48] := by
  unfold fixP
  rw [show rnd (amN 4591870180066957722 * 10 ^ 6) (amD 4591870180066957722) = 100000 by decide +kernel, decs_is (l := [49, 48, 48, 48, 48, 48]) (n := 100000) (by unfold Dec; decide) (by decide) (by decide) (by decide)]
  rfl
theorem gen_01 : genT 4591870180066957722 5 false = [48, 46, 49] := by
  unfold genT
  rw [sciX_of (sciB_ok (P := -1) (M := 100000) (by decide +kernel) (by omega))]
  rw [if_neg (by decide)]
  show trimG false (fixP 4591870180066957722 6 false) = _
  rw [fix_01]
  rfl
theorem conv6_01 : conv6 4591870180066957722 = [48, 46, 49] := by
  unfold conv6
  rw [if_neg (by decide +kernel), show oddL 4591870180066957722 = none from odd_none (by decide)]
  show pointT false false false false false 0 6 103 4591870180066957722 = _
  unfold pointT ptD
  rw [if_neg (by decide), if_neg (by decide), show (max (1 : Int) (if (6 : Int) < 0 then (6 : Int) else 6) - 1).toNat = 5 by decide, show mag 4591870180066957722 = 4591870180066957722 by decide, gen_01]
  decide +kernel
theorem pt_pi : pointT false true false false true 8 2 102 4614256650576692846 = [43, 48, 48, 48, 51, 46, 49, 52] := by
  unfold pointT ptD
  rw [if_pos (Or.inl rfl)]
  decide +kernel
theorem text_ex : textT true 5 2 115 ⟨#[97, 195, 169, 122]⟩ false = [97, 195, 169, 32, 32, 32] := by
  decide +kernel
def pEx : ByteArray := ⟨#[97, 37, 43, 48, 56, 46, 50, 102, 98]⟩
theorem parse_ex : parseF pEx 1 = some ⟨false, true, false, false, true, 8, 2, 102, false, false, 8⟩ := by rfl
end Go.Proofs.YtbbbdcohkfijoaaGreatDoor

namespace Go.Proofs.YtbbbdcohkfijoaaGreatDoor
open Go.RowKit Go.Lib

set_option maxRecDepth 100000 in
set_option maxHeartbeats 8000000 in
theorem ffixed_any (w : World) (hT : PowTab w) (hU : Utf8Tabs 4 5 w) : Calls Tryz.prog 24 #[] w fun e w' => e = .returned (.bool true) ∧ Below w.heap.size w w' := by
  have c1 := fun W => fparse_any pEx 1 W (by decide)
  rw [parse_ex] at c1
  replace c1 : ∀ W, Calls Tryz.prog 69 #[.string ⟨#[97, 37, 43, 48, 56, 46, 50, 102, 98]⟩, .int .i64 1] W fun e w' => e = .returned (.tuple #[.agg #[.bool false, .bool true, .bool false, .bool false, .bool true, .int .i64 8, .int .i64 2, .int .u8 102, .bool false, .bool false, .int .i64 8], .int .i64 0]) ∧ Below W.heap.size W w' := c1
  have c2 := fun W hW => number_point false true false false true 8 2 102 4614256650576692846 W (by omega) (by decide) (by decide) (by decide) (by decide) hW
  rw [pt_pi] at c2
  replace c2 : ∀ W, PowTab W → Calls Tryz.prog 25 #[.agg #[.bool false, .bool true, .bool false, .bool false, .bool true, .int .i64 8, .int .i64 2, .int .u8 102], .float .f64 4614256650576692846] W fun e w' => e = .returned (.tuple #[.string ⟨#[43, 48, 48, 48, 51, 46, 49, 52]⟩, .int .i64 0]) ∧ Below W.heap.size W w' := c2
  have c3 := fun W hW => ftext_yes true false false false false false 5 2 115 ⟨#[97, 195, 169, 122]⟩ W (by decide) (by omega) (by decide) (by decide) hW
  rw [text_ex] at c3
  replace c3 : ∀ W, Utf8Tabs 4 5 W → Calls Tryz.prog 70 #[.agg #[.bool true, .bool false, .bool false, .bool false, .bool false, .int .i64 5, .int .i64 2, .int .u8 115], .string ⟨#[97, 195, 169, 122]⟩, .bool false] W fun e w' => e = .returned (.tuple #[.string ⟨#[97, 195, 169, 32, 32, 32]⟩, .int .i64 0]) ∧ Below W.heap.size W w' := c3
  have c4 := fun W hW => conv_6g 4591870180066957722 W (by omega) hW
  rw [conv6_01] at c4
  replace c4 : ∀ W, PowTab W → Calls Tryz.prog 71 #[.float .f64 4591870180066957722, .string ⟨#[37, 46, 54, 103]⟩] W fun e w' => e = .returned (.string ⟨#[48, 46, 49]⟩) ∧ Below W.heap.size W w' := c4
  have HT := Lib.hid (Lib.tabBelow_of_tabIs hT)
  have HU := Lib.hid (fun (W : World) (h : Below w.heap.size w W) => tabs_below hU h (Nat.le_refl _))
  have C1 := Lib.hid c1
  have C2 := Lib.hid c2
  have C3 := Lib.hid c3
  have C4 := Lib.hid c4
  clear c1 c2 c3 c4 hT hU
  go_enter Tryz.func24, Tryz.ntmps24
  go_wp2_with fail
  refine (C1.out _).mono ?_
  rintro e w1 ⟨rfl, hB1⟩
  have fA := Five.new w1 #[.bool false, .bool true, .bool false, .bool false, .bool true, .int .i64 8, .int .i64 2, .int .u8 102, .bool false, .bool false, .int .i64 8] 102
  have hA := hB1.alloc hB1.size (.cells #[.bool false, .bool true, .bool false, .bool false, .bool true, .int .i64 8, .int .i64 2, .int .u8 102, .bool false, .bool false, .int .i64 8] 102)
  obtain ⟨W2, hW2⟩ : ∃ W2, w1.alloc (.cells #[.bool false, .bool true, .bool false, .bool false, .bool true, .int .i64 8, .int .i64 2, .int .u8 102, .bool false, .bool false, .int .i64 8] 102) = W2 := ⟨_, rfl⟩
  obtain ⟨B, hB⟩ : ∃ B, w1.heap.size = B := ⟨_, rfl⟩
  rw [hW2] at fA hA
  rw [hB] at fA
  have HW2 := Lib.hid hW2
  have HB := Lib.hid hB
  have FA := Lib.hid fA
  have HA := Lib.hid hA
  clear hW2 hB fA hA hB1
  obtain ⟨⟨q0, q1, q2, q3, q4, q5, q6, q7, q8, q9, q10⟩, -⟩ := FA.out.eleven
  go_wp2_with fail
  rw [HW2.out, HB.out]
  clear q0 q1 q2 q3 q4 q5 q6 q7 q8 q9 q10
  refine (C2.out _ (HT.out _ HA.out)).mono ?_
  rintro e W3 ⟨rfl, h3⟩
  have FA3 := Lib.hid (FA.out.below h3)
  have HA3 := Lib.hid (HA.out.trans (h3.mono HA.out.size))
  clear h3
  go_wp2_with fail
  refine (C3.out _ (HU.out _ HA3.out)).mono ?_
  rintro e W4 ⟨rfl, h4⟩
  have FA4 := Lib.hid (FA3.out.below h4)
  have HA4 := Lib.hid (HA3.out.trans (h4.mono HA3.out.size))
  clear h4
  have HCW := Lib.hid (fun (W : World) (h : Below W4.heap.size W4 W) => (show W.cell? ⟨B, 10, none⟩ = some (.int .i64 8) from ((FA4.out.below h).eleven).1.2.2.2.2.2.2.2.2.2.2))
  have hR := Below.refl W4.heap.size W4
  have q10 := HCW.out W4 hR
  go_wp2_with fail
  refine (C4.out _ (HT.out _ HA4.out)).mono ?_
  rintro e W5 ⟨rfl, h5⟩
  have hBf := HA4.out.trans (h5.mono HA4.out.size)
  clear h5 q10
  go_wp2_with fail
  go_ret
  exact ⟨rfl, hBf⟩
end Go.Proofs.YtbbbdcohkfijoaaGreatDoor

namespace Go.Proofs.YtbbbdcohkfijoaaGreatDoor
open Go.RowKit Go.Lib

theorem ext_list (s : ByteArray) {i j : Nat} (_hj : j ≤ s.size) : (s.extract i j).data.toList = (s.data.toList.take j).drop i := by
  rw [ByteArray.data_extract, Array.toList_extract]
  simp [List.extract_eq_take_drop, List.drop_take]
end Go.Proofs.YtbbbdcohkfijoaaGreatDoor

namespace Go.Proofs.YtbbbdcohkfijoaaGreatDoor
open Go.RowKit Go.Lib

def sI (a : Int) : Nat := if a < 0 then 9223372036854775808 else 0
theorem float_int {a : Int} (h : a.natAbs < 9007199254740992) : floatOfInt .f64 a = sI a + fw a.natAbs := by
  show Ieee.double.write (.number (decide (a < 0)) a.natAbs 0) = _
  show Ieee.double.nearest (decide (a < 0)) a.natAbs 0 = _
  rw [nearest_sign]
  have e : Ieee.double.nearest false a.natAbs 0 = fw a.natAbs := by
    rcases Nat.eq_zero_or_pos a.natAbs with h0 | h0
    · rw [h0]; decide
    · exact nearest_up h0 h
  rw [e]
  unfold sI
  by_cases h1 : a < 0
  · rw [decide_eq_true h1, if_pos rfl, if_pos h1]
  · rw [decide_eq_false h1, if_neg h1, if_neg (by decide)]
theorem neg_s {s r : Nat} (hs : s = 0 ∨ s = 9223372036854775808) (hr : r < 9218868437227405312) : Op.negFloat .f64 (s + r) = (9223372036854775808 - s) + r := by
  rcases hs with rfl | rfl
  · rw [Nat.zero_add]; exact neg_pos (by omega)
  · rw [neg_neg' (by omega)]; simp
end Go.Proofs.YtbbbdcohkfijoaaGreatDoor

namespace Go.Proofs.YtbbbdcohkfijoaaGreatDoor
open Go.RowKit Go.Lib

theorem trunc_fw {n : Nat} (h : n < 9007199254740992) : truncR (fw n) = fw n := by
  rcases Nat.eq_zero_or_pos n with rfl | h0
  · show truncR 0 = 0
    unfold truncR
    rw [if_neg (by decide), show manF 0 = 0 from rfl, Nat.zero_div]
    rfl
  · obtain ⟨k, e1, e2, _⟩ := fw_parts h0 h
    unfold truncR
    by_cases hk : k = 0
    · rw [if_pos (by rw [e2]; omega)]
    · rw [if_neg (by rw [e2]; omega), e1, e2, show (-(-(k : Int))).toNat = k by omega, Nat.mul_div_cancel _ (Nat.pow_pos (by omega))]
theorem fw_zero {n : Nat} (h : n < 9007199254740992) : fw n = 0 ↔ n = 0 := by
  constructor
  · intro e
    have := fw_V h
    rw [e] at this
    have h0 : V 0 = 0 := by decide
    rw [h0] at this
    rcases Nat.mul_eq_zero.1 this.symm with k | k
    · exact k
    · exact absurd k (Nat.ne_of_gt S_pos)
  · rintro rfl; rfl
theorem numT_whole {m p b a z : Bool} {wd pr : Int} {c x : Nat} (h1 : chkB wd pr c = true) (h2 : vNum.contains c.toUInt8 = true) (h3 : vWhole.contains c.toUInt8 = true) (hx : mag x < 9218868437227405312) : numT m p b a z wd pr c x = wholeL m p b a z wd pr c x := by
  unfold numT
  rw [if_pos ⟨h1, h2⟩, odd_none hx]
  show (if _ then _ else _) = _
  rw [if_pos h3]
theorem whD0_dec {n : Nat} (h : n < 9007199254740992) : whD0 (fw n) 100 = decs n := by
  unfold whD0
  rw [if_neg (by decide), if_neg (by decide), am_fw h, Nat.mul_right_comm, rnd_exact _ _ (amD_pos _), Nat.pow_zero, Nat.mul_one, fixT, if_pos rfl]
theorem chk_w {wd pr : Int} {c : Nat} (h0 : 0 ≤ wd) (h1 : wd ≤ 1024) (h2 : -1 ≤ pr) (h3 : pr ≤ 190) (h4 : vAll.contains c.toUInt8 = true) : chkB wd pr c = true := by
  unfold chkB
  rw [decide_eq_true h0, decide_eq_true h1, decide_eq_true h2, decide_eq_true h3, h4]
  rfl
theorem low_fw {n : Nat} (h : n < 9007199254740992) : lowB (fw n) = false := by
  have := fw_bd h
  unfold lowB sbB
  rw [decide_eq_false (by omega), Bool.false_and]
theorem low_neg {n : Nat} (h : n < 9007199254740992) : lowB (9223372036854775808 + fw n) = decide (n ≠ 0) := by
  have hb := fw_bd h
  have hm : mag (9223372036854775808 + fw n) = fw n := by unfold mag; omega
  unfold lowB sbB
  rw [hm, trunc_fw h, decide_eq_true (by omega), Bool.true_and]
  by_cases e : n = 0
  · rw [decide_eq_false (fun q => q ((fw_zero h).2 e)), decide_eq_false (by omega)]
  · rw [decide_eq_true (by rw [Ne, fw_zero h]; exact e), decide_eq_true e]
/-- The three texts. -/
theorem text_d {n : Nat} {K : Nat} (h : n < 9007199254740992) (hK : K ≤ 60) : numT false false false false true (K : Int) (-1) 100 (fw n) = List.replicate ((K : Int) - ((decs n).length : Int)).toNat 48 ++ decs n := by
  have hb := fw_bd h
  rw [numT_whole (chk_w (by omega) (by omega) (by omega) (by omega) (by decide)) (by decide) (by decide) (by rw [fw_mag h]; omega)]
  unfold wholeL
  rw [low_fw h, fw_mag h, trunc_fw h]
  have e1 : signL false false 100 false = [] := by decide
  have e2 : whB (fw n) 100 false = [] := by unfold whB; rw [if_neg (by simp)]
  have e3 : whD (fw n) (-1) false 100 = decs n := by
    unfold whD whD2 whD1
    rw [if_neg (by omega), if_neg (by simp), whD0_dec h, show (-1 - ((decs n).length : Int)).toNat = 0 by omega]
    rfl
  have e4 : capL 100 [] = [] := by decide
  have e5 : capL 100 (decs n) = decs n := by unfold capL; rw [if_neg (by decide)]
  rw [e1, e2, e3, e4, e5]
  unfold laidL
  rw [if_pos ⟨by decide, rfl⟩]
  simp
theorem text_x {n : Nat} (h : n < 9007199254740992) : numT false false false false false 0 (-1) 120 (fw n) = ibT (manF (fw n)) (expF (fw n)) 4 := by
  have hb := fw_bd h
  rw [numT_whole (chk_w (by omega) (by omega) (by omega) (by omega) (by decide)) (by decide) (by decide) (by rw [fw_mag h]; omega)]
  unfold wholeL
  rw [low_fw h, fw_mag h, trunc_fw h]
  have e1 : signL false false 120 false = [] := by decide
  have e2 : whB (fw n) 120 false = [] := by unfold whB; rw [if_neg (by simp)]
  have e3 : whD (fw n) (-1) false 120 = ibT (manF (fw n)) (expF (fw n)) 4 := by
    unfold whD whD2 whD1 whD0
    rw [if_neg (by omega), if_neg (by simp), if_neg (by decide), if_pos (by decide), show (-1 - ((ibT (manF (fw n)) (expF (fw n)) 4).length : Int)).toNat = 0 by omega]
    rfl
  have e4 : capL 120 [] = [] := by decide
  have e5 : ∀ l, capL 120 l = l := fun l => by unfold capL; rw [if_neg (by decide)]
  rw [e1, e2, e3, e4, e5, laid_bare]
  rfl
/-- What octal digits are written. -/
def octL (n K : Nat) : List UInt8 := List.replicate ((K : Int) - ((if n = 0 ∧ K = 0 then ([] : List UInt8) else ibT (manF (fw n)) (expF (fw n)) 3).length : Int)).toNat 48 ++ (if n = 0 ∧ K = 0 then [] else ibT (manF (fw n)) (expF (fw n)) 3)
theorem text_o {n K : Nat} (h : n < 9007199254740992) (hK : K ≤ 60) : numT false false false false false 0 (K : Int) 111 (9223372036854775808 + fw n) = (if n = 0 then [] else [45]) ++ octL n K := by
  have hb := fw_bd h
  have hm : mag (9223372036854775808 + fw n) = fw n := by unfold mag; omega
  rw [numT_whole (chk_w (by omega) (by omega) (by omega) (by omega) (by decide)) (by decide) (by decide) (by rw [hm]; omega)]
  unfold wholeL
  rw [low_neg h, hm, trunc_fw h]
  have e1 : signL false false 111 (decide (n ≠ 0)) = if n = 0 then [] else [45] := by
    by_cases e : n = 0
    · rw [decide_eq_false (by omega), if_pos e]; decide
    · rw [decide_eq_true e, if_neg e]; rfl
  have e2 : whB (fw n) 111 false = [] := by unfold whB; rw [if_neg (by simp)]
  have e3 : whD (fw n) (K : Int) false 111 = octL n K := by
    have k : whD2 (fw n) (K : Int) false 111 = if n = 0 ∧ K = 0 then [] else ibT (manF (fw n)) (expF (fw n)) 3 := by
      unfold whD2 whD1 whD0
      rw [if_neg (c := 111 = 111 ∧ false = true ∧ fw n ≠ 0) (by simp), if_pos (c := 111 = 111) rfl]
      by_cases e : n = 0 ∧ K = 0
      · rw [if_pos e, if_pos ⟨by simp, (fw_zero h).2 e.1, by omega⟩]
      · rw [if_neg e, if_neg (fun q => e ⟨(fw_zero h).1 q.2.1, by omega⟩)]
    unfold whD octL
    rw [k]
  have e4 : capL 111 [] = [] := by decide
  have e5 : ∀ l, capL 111 l = l := fun l => by unfold capL; rw [if_neg (by decide)]
  rw [e1, e2, e3, e4, e5, laid_bare, List.append_nil]
theorem octL_val {n K : Nat} (h : n < 9007199254740992) : valN 8 (octL n K) = n := by
  unfold octL
  rw [valN_zeros]
  split
  · rename_i e; rw [e.1]; rfl
  · exact valN_ib h (z := 3) (Or.inl rfl)
theorem octL_len (n K : Nat) : K ≤ (octL n K).length := by
  unfold octL
  rw [List.length_append, List.length_replicate]
  omega
theorem hexC_ge {d : Nat} : 48 ≤ hexC d := by unfold hexC; split <;> omega
theorem ibT_ge (P : Nat) (E : Int) (z : Nat) (hz : z ≤ 4) : ∀ c ∈ ibT P E z, 48 ≤ c.toNat := by
  intro c hc
  unfold ibT ibL at hc
  rw [List.map_map] at hc
  obtain ⟨i, _, rfl⟩ := List.mem_map.1 hc
  have h := hexC_lt (ibD_lt P E z (ibN P E z) i hz)
  have h2 := hexC_ge (d := ibD P E z (ibN P E z) i)
  show 48 ≤ (hexC _).toUInt8.toNat
  simp only [Nat.toUInt8, UInt8.toNat_ofNat']
  omega
theorem octL_ge (n K : Nat) : ∀ c ∈ octL n K, 48 ≤ c.toNat := by
  intro c hc
  unfold octL at hc
  rcases List.mem_append.1 hc with k | k
  · rw [(List.mem_replicate.1 k).2]; decide
  · split at k
    · cases k
    · exact ibT_ge _ _ 3 (by omega) c k
theorem ibT_fw_len {n z : Nat} (h : n < 9007199254740992) (hz : z = 3 ∨ z = 4) : (ibT (manF (fw n)) (expF (fw n)) z).length ≤ 1100 := by
  rw [ibT_len]
  have hb := fw_bd h
  exact (ibN_bd (manF_lt (r := fw n)) (expF_le (by omega)) hz).2
theorem octL_lenle {n K : Nat} (h : n < 9007199254740992) (hK : K ≤ 60) : (octL n K).length ≤ 1200 := by
  have := ibT_fw_len h (z := 3) (Or.inl rfl)
  unfold octL
  rw [List.length_append, List.length_replicate]
  split <;> simp <;> omega
set_option maxRecDepth 100000 in
set_option maxHeartbeats 16000000 in
theorem formatWhole_core (x m K : Nat) (wd : Int) (w : World) (hx : x < 18446744073709551616) (hm : (x : Int) % 9007199254740992 = (m : Int)) (hmb : m < 9007199254740992) (hK : min (max wd 0) 60 = (K : Int)) (hK6 : K ≤ 60) (hT : PowTab w) (hU : Utf8Tabs 4 5 w) :
    Calls Tryz.prog 5 #[.int .u64 (x : Int), .int .i64 wd] w fun e w' => e = .returned (.bool true) ∧ Below w.heap.size w w' := by
  have hfb := fw_bd hmb
  have cN1 := fun W hW => number_any false false false false true (K : Int) (-1) 100 (fw m) W (by omega) (by omega) hW
  have cN2 := fun W hW => number_any false false false false false 0 (-1) 120 (fw m) W (by omega) (by omega) hW
  have cN3 := fun W hW => number_any false false false false false 0 (K : Int) 111 (9223372036854775808 + fw m) W (by omega) (by omega) hW
  rw [text_d hmb hK6, show numE (K : Int) (-1) 100 = 0 from if_pos ⟨chk_w (by omega) (by omega) (by omega) (by omega) (by decide), by decide⟩] at cN1
  rw [text_x hmb, show numE 0 (-1) 120 = 0 from if_pos ⟨chk_w (by omega) (by omega) (by omega) (by omega) (by decide), by decide⟩] at cN2
  rw [text_o hmb hK6, show numE 0 (K : Int) 111 = 0 from if_pos ⟨chk_w (by omega) (by omega) (by omega) (by omega) (by decide), by decide⟩] at cN3
  obtain ⟨D, hD⟩ : ∃ D : ByteArray, (⟨(List.replicate ((K : Int) - ((decs m).length : Int)).toNat 48 ++ decs m).toArray⟩ : ByteArray) = D := ⟨_, rfl⟩
  obtain ⟨X, hX⟩ : ∃ D : ByteArray, (⟨(ibT (manF (fw m)) (expF (fw m)) 4).toArray⟩ : ByteArray) = D := ⟨_, rfl⟩
  obtain ⟨O, hO⟩ : ∃ D : ByteArray, (⟨(octL m K).toArray⟩ : ByteArray) = D := ⟨_, rfl⟩
  have hDl : D.data.toList = List.replicate ((K : Int) - ((decs m).length : Int)).toNat 48 ++ decs m := by rw [← hD]
  have hXl : X.data.toList = ibT (manF (fw m)) (expF (fw m)) 4 := by rw [← hX]
  have hOl : O.data.toList = octL m K := by rw [← hO]
  have dl : (decs m).length ≤ 20 := (decs_le (n := m) (k := 20) (by omega)).2 (by omega)
  have sD : D.size ≤ 100 := by rw [← ba_len, hDl, List.length_append, List.length_replicate]; omega
  have sDK : ¬ (D.size : Int) < (K : Int) := by rw [← ba_len, hDl, List.length_append, List.length_replicate]; omega
  have sX : X.size ≤ 1100 := by rw [← ba_len, hXl]; exact ibT_fw_len hmb (Or.inr rfl)
  have sO : O.size ≤ 1200 := by rw [← ba_len, hOl]; exact octL_lenle hmb hK6
  have sOK : (K : Int) ≤ (O.size : Int) := by have := octL_len m K; rw [← ba_len, hOl]; omega
  have vD : valN 10 D.data.toList = m := by rw [hDl, valN_zeros, valN_decs]
  have vX : valN 16 X.data.toList = m := by rw [hXl]; exact valN_ib hmb (z := 4) (Or.inr rfl)
  have vO : valN 8 O.data.toList = m := by rw [hOl]; exact octL_val hmb
  have cV1 := fun W => lvalue_10 D W (by omega) (fun c hc => by
    rw [hDl] at hc
    rcases List.mem_append.1 hc with k | k
    · rw [(List.mem_replicate.1 k).2]; decide
    · exact (dec_decs m c k).1) (by omega)
  have cV2 := fun W => lvalue_16 X W (by omega) (fun c hc => ibT_ge _ _ 4 (by omega) c (by rw [← hXl]; exact hc)) (by omega)
  have cV3 := fun W => lvalue_8 O W (by omega) (fun c hc => octL_ge m K c (by rw [← hOl]; exact hc)) (by omega)
  rw [vD] at cV1
  rw [vX] at cV2
  rw [vO] at cV3
  have hfl : floatOfInt .f64 (m : Int) = fw m := by
    have := float_int (a := (m : Int)) (by simpa using hmb)
    rw [this, show sI (m : Int) = 0 from if_neg (by omega), Nat.zero_add]
    simp
  have hng : Op.negFloat .f64 (fw m) = 9223372036854775808 + fw m := by
    have := neg_s (s := 0) (r := fw m) (Or.inl rfl) (by omega)
    rwa [Nat.zero_add, Nat.sub_zero] at this
  obtain ⟨F, hF⟩ : ∃ F, fw m = F := ⟨_, rfl⟩
  obtain ⟨G, hG⟩ : ∃ F, 9223372036854775808 + fw m = F := ⟨_, rfl⟩
  rw [hD, hF] at cN1
  rw [hX, hF] at cN2
  rw [hG] at cN3
  rw [hG, hF] at hng
  rw [hF] at hfl
  have hneg : ∀ W : World, (Op.unary .neg (.float .f64 F)).run Tryz.prog W = .ok (.float .f64 G) W := fun W => by rw [run_neg, hng]
  clear hng
  obtain ⟨M, hMM⟩ : ∃ M : Int, (m : Int) = M := ⟨_, rfl⟩
  rw [hMM] at hm hfl cV1 cV2 cV3
  have HT := Lib.hid (Lib.tabBelow_of_tabIs hT)
  have HZ := Lib.hid (fun (W : World) (h : Below w.heap.size w W) => h.size)
  have CF := Lib.hid (ffixed_any w hT hU)
  have CN1 := Lib.hid cN1
  have CN2 := Lib.hid cN2
  have CV1 := Lib.hid cV1
  have CV2 := Lib.hid cV2
  have CV3 := Lib.hid cV3
  have HM := Lib.hid hm
  have HK := Lib.hid hK
  clear hT hU cN1 cN2 cV1 cV2 cV3 hm hK hD hX hDl hXl hOl dl vD vX vO hfb hF hG
  by_cases h0 : m = 0
  · rw [if_pos h0, List.nil_append, hO] at cN3
    have CN3 := Lib.hid cN3
    have hnp : ¬ 0 < M := by omega
    have hM0 : 0 ≤ M := by omega
    clear cN3 hO h0 hMM hmb
    go_enter Tryz.func5, Tryz.ntmps5
    go_wp2_with fail
    refine CF.out.mono ?_
    rintro e W1 ⟨rfl, h1⟩
    have HB1 := Lib.hid h1
    have hk := HK.out
    have hm := HM.out
    clear h1
    go_wp2_with fail
    refine (CN1.out _ (HT.out _ HB1.out)).mono ?_
    rintro e W2 ⟨rfl, h2⟩
    have HB2 := Lib.hid (HB1.out.trans (h2.mono (HZ.out _ HB1.out)))
    clear h2
    go_wp2_with fail
    refine (CN2.out _ (HT.out _ HB2.out)).mono ?_
    rintro e W3 ⟨rfl, h3⟩
    have HB3 := Lib.hid (HB2.out.trans (h3.mono (HZ.out _ HB2.out)))
    clear h3
    go_wp2_with fail
    refine (CN3.out _ (HT.out _ HB3.out)).mono ?_
    rintro e W4 ⟨rfl, h4⟩
    have HB4 := Lib.hid (HB3.out.trans (h4.mono (HZ.out _ HB3.out)))
    clear h4
    go_wp2_with fail
    refine (CV1.out _).mono ?_
    rintro e w' ⟨rfl, rfl⟩
    go_wp2_with fail
    refine (CV2.out _).mono ?_
    rintro e w' ⟨rfl, rfl⟩
    go_wp2_with fail
    refine (CV3.out _).mono ?_
    rintro e w' ⟨rfl, rfl⟩
    go_wp2_with fail
    go_ret
    exact ⟨rfl, HB4.out⟩
  · rw [if_neg h0, ← ba_mk_app, hO] at cN3
    obtain ⟨Q, hQ⟩ : ∃ Q : ByteArray, (⟨[45].toArray⟩ : ByteArray) ++ O = Q := ⟨_, rfl⟩
    have hQs : Q.size = 1 + O.size := by rw [← hQ, ByteArray.size_append]; rfl
    have hQl : Q.data.toList = 45 :: O.data.toList := by rw [← hQ, ByteArray.data_append, Array.toList_append]; rfl
    have q0 : 0 < Q.size := by omega
    have q1 : (Q[0]'q0).toNat = 45 := by
      have : Q.data.toList[0]? = some 45 := by rw [hQl]; rfl
      rw [Array.getElem?_toList] at this
      have e := (Array.getElem?_eq_some_iff.1 this).2
      show (Q.data[0]'_).toNat = 45
      rw [e]
      rfl
    have q2 : Q.extract 1 Q.size = O := by
      apply ByteArray.ext
      apply Array.toList_inj.1
      rw [ext_list Q (Nat.le_refl _), List.take_of_length_le (by rw [ba_len]; exact Nat.le_refl _), hQl]
      rfl
    have q3 : Q.toList ≠ [] := by
      rw [Lib.toList_data, hQl]
      simp
    have q3b : Q.toList.isEmpty = false := by
      rw [Lib.toList_data, hQl]
      rfl
    have q4 : (1 : Int) ≤ (Q.size : Int) := by omega
    have q5 : (0 : Int) < (Q.size : Int) := by omega
    rw [hQ] at cN3
    have CN3 := Lib.hid cN3
    have hnp : 0 < M := by omega
    have hM0 : 0 ≤ M := by omega
    clear cN3 hO h0 hMM hmb hQ hQs hQl
    go_enter Tryz.func5, Tryz.ntmps5
    go_wp2_with fail
    refine CF.out.mono ?_
    rintro e W1 ⟨rfl, h1⟩
    have HB1 := Lib.hid h1
    have hk := HK.out
    have hm := HM.out
    clear h1
    go_wp2_with fail
    refine (CN1.out _ (HT.out _ HB1.out)).mono ?_
    rintro e W2 ⟨rfl, h2⟩
    have HB2 := Lib.hid (HB1.out.trans (h2.mono (HZ.out _ HB1.out)))
    clear h2
    go_wp2_with fail
    refine (CN2.out _ (HT.out _ HB2.out)).mono ?_
    rintro e W3 ⟨rfl, h3⟩
    have HB3 := Lib.hid (HB2.out.trans (h3.mono (HZ.out _ HB2.out)))
    clear h3
    go_wp2_with fail
    refine (CN3.out _ (HT.out _ HB3.out)).mono ?_
    rintro e W4 ⟨rfl, h4⟩
    have HB4 := Lib.hid (HB3.out.trans (h4.mono (HZ.out _ HB3.out)))
    clear h4
    go_wp2_with fail
    refine (CV1.out _).mono ?_
    rintro e w' ⟨rfl, rfl⟩
    go_wp2_with fail
    refine (CV2.out _).mono ?_
    rintro e w' ⟨rfl, rfl⟩
    go_wp2_with fail
    refine (CV3.out _).mono ?_
    rintro e w' ⟨rfl, rfl⟩
    go_wp2_with fail
    go_ret
    exact ⟨rfl, HB4.out⟩
theorem formatWhole_any (n wd : Int) (w : World) (h0 : 0 ≤ n) (h1 : n ≤ 18446744073709551615) (hT : PowTab w) (hU : Utf8Tabs 4 5 w) :
    Calls Tryz.prog 5 #[.int .u64 n, .int .i64 wd] w fun e w' => e = .returned (.bool true) ∧ Below w.heap.size w w' := by
  obtain ⟨x, rfl⟩ : ∃ x : Nat, n = (x : Int) := ⟨n.toNat, by omega⟩
  obtain ⟨K, hK⟩ : ∃ K : Nat, min (max wd 0) 60 = (K : Int) := ⟨(min (max wd 0) 60).toNat, by omega⟩
  exact formatWhole_core x (x % 9007199254740992) K wd w (by omega) (by omega) (by omega) hK (by omega) hT hU
end Go.Proofs.YtbbbdcohkfijoaaGreatDoor
