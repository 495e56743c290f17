/- Contracts of layer 1: Place. -/
import Derived.Test.YtaemijgfngdjlaaDoorUstrZ
import Derived.Test.YtaemijgfngdjlaaDoorUstrH
namespace Go.Proofs.YtaemijgfngdjlaaDoor
open Go.RowKit Go.Lib Go.Shelf
attribute [local go_sem] Oper.semAt_some

set_option maxRecDepth 100000 in
set_option maxHeartbeats 2000000 in
theorem place_in (s : ByteArray) (n : Int) (b : Bool) (w : World) (hs : s.size ≤ 1048576) (hT : Utf8Tabs 0 1 w) :
    CallsIn Fence.wide 10 Tryd.prog 18 #[.string s, .int .i64 n, .bool b] w fun e w' => e = .returned (.tuple #[.int .i64 (placeZ s b n).1, .bool (placeZ s b n).2]) ∧ Below w.heap.size w w' := by
  have hcl := cnt_le s b
  refine callsIn_of_wp_marks Tryd.func18 rfl trivial ?_ rfl
  simp only [Tryd.ntmps18, List.size_toArray, List.length_cons, List.length_nil, Nat.reduceAdd, Nat.reduceSub, Array.replicate_succ, Array.replicate_zero, List.push_toArray, List.append_toArray, List.nil_append, List.cons_append]
  by_cases h1 : n < 1
  · rw [placeZ, if_neg (by omega)]
    clear hT
    gi_wp2
    exact ⟨.tuple #[.int .i64 0, .bool false], by simp [results, Tryd.results18, go_sem], rfl, ((((Below.refl w.heap.size w).alloc (Nat.le_refl _) _).alloc (by simp) _).alloc (by simp; omega) _)⟩
  by_cases h2 : (s.size : Int) + 1 < n
  · rw [placeZ, if_neg (by omega)]
    clear hT
    gi_wp2
    exact ⟨.tuple #[.int .i64 0, .bool false], by simp [results, Tryd.results18, go_sem], rfl, ((((Below.refl w.heap.size w).alloc (Nat.le_refl _) _).alloc (by simp) _).alloc (by simp; omega) _)⟩
  cases b
  · gi_wp2_with fail
    refine ⟨trivial, (callsIn_wide.2 (all_any _ _ _)).mono ?_⟩
    rintro e W0 ⟨rfl, hW⟩
    simp only [World.size_alloc]
    obtain ⟨hsz, x4, x6, x7, x8, xa, xb⟩ := push6 w.heap (.cells #[.int .i64 n] 3) (.cells #[.int .i64 0] 3) (.cells #[.bool false] 4) (.cells #[.int .i64 1] 3) (.cells #[.string s] 9) (.cells #[.bool false] 4) W0.heap (by rw [← hW]; rfl)
    have hb0 : Below w.heap.size w W0 := by
      rw [← hW]
      exact ((((((Below.refl _ _).alloc (Nat.le_refl _) _).alloc (by simp) _).alloc (by simp; omega) _).alloc (by simp; omega) _).alloc (by simp; omega) _).alloc (by simp; omega) _
    have hTW : Utf8Tabs 0 1 W0 := tabs_below hT hb0 (Nat.le_refl _)
    clear hW
    gi_wp2
    refine wpIn_rangeFunc_ownF rfl (by omega) (gf := 34) (lb := #[.pointer (some ⟨w.heap.size + 4, 0, none⟩), .pointer (some ⟨w.heap.size + 4 + 1, 0, none⟩)]) rfl trivial (enters_of Tryd.func34 (by kernel_rfl) rfl)
      (all_stops 9 (by omega) s false (w.heap.size + 4) (w.heap.size + 4 + 1) W0 (by omega) (Boxed.cell xa) (Boxed.cell xb) hTW) KeepsAt.trans
      (fun W l o o' hl _ _ _ => KeepsAt.putObj W0.heap.size (fun c hc => by have := tabs_lt hTW; simp at hc; omega) W l o' hl) (Below.refl _ _) (fun _ => rfl)
      (fun pre W => (Boxed W w.heap.size 3 (.int .i64 n) ∧ Boxed W (w.heap.size + 1) 3 (.int .i64 0) ∧ Boxed W (w.heap.size + 1 + 1) 4 (.bool false) ∧ Boxed W (w.heap.size + 1 + 1 + 1) 3 (.int .i64 ((pre.length : Int) + 1))) ∧ (((pre.length : Int) < n ∧ w.heap.size + 6 ≤ W.heap.size) ∧ Below w.heap.size w W))
      (fun c pre W => c = .ret ∧ (∃ v : Nat, (Boxed W (w.heap.size + 1) 3 (.int .i64 v) ∧ Boxed W (w.heap.size + 1 + 1) 4 (.bool true)) ∧ (pre = List.range pre.length → (pre.length : Int) = n ∧ v = pl s false (pre.length - 1))) ∧ Below w.heap.size w W) ?hI ?hIx ⟨⟨x4, x6, x7, x8⟩, ⟨by simp; omega, by omega⟩, hb0⟩
      (fun k => { tmps := #[.string s, .int .i64 n, .bool false, undef, .pointer (some ⟨w.heap.size, 0, none⟩), undef, .pointer (some ⟨w.heap.size + 1, 0, none⟩), .pointer (some ⟨w.heap.size + 1 + 1, 0, none⟩), .pointer (some ⟨w.heap.size + 1 + 1 + 1, 0, none⟩), .int .i64 (pl s false k), .int .i64 n, .bool false, .bool false, .int .i64 n, .string s, .int .i64 s.size, .int .i64 (s.size + 1), .bool false, .bool false, .bool false, undef, undef, .string s, .func (.func 34) #[] #[.pointer (some ⟨w.heap.size + 1 + 1 + 1 + 1, 0, none⟩), .pointer (some ⟨w.heap.size + 1 + 1 + 1 + 1 + 1, 0, none⟩)], .int .i64 (pl s false k), .int .i64 (cod s false (pl s false k)), undef, undef, undef, undef, undef, undef, undef, undef, undef, undef, undef], defers := [] }) ?assign ?body ?done ?stop
    case hI =>
      refine OwnFrom.and (OwnFrom.and (Own.from (boxed_own _ _ _) _) (OwnFrom.and (Own.from (boxed_own _ _ _) _) (OwnFrom.and (Own.from (boxed_own _ _ _) _) (Own.from (boxed_own _ _ (fun pre : List Nat => .int .i64 ((pre.length : Int) + 1))) _)))) (OwnFrom.and (fun _ A B row hs hg _ => ⟨hs.1, by have := hg.size; omega⟩) (ownFrom_below (Nat.le_refl _) (by omega)))
    case hIx =>
      rintro c pre A B row ⟨h1, ⟨v, ⟨h2, h3⟩, h4⟩, h5⟩ hg hr
      exact ⟨h1, ⟨v, ⟨boxed_own (β := Unit) (w.heap.size + 1) 3 (fun _ => .int .i64 v) () A B row h2 hg (fun r e => (hr r e).2), boxed_own (β := Unit) (w.heap.size + 1 + 1) 4 (fun _ => .bool true) () A B row h3 hg (fun r e => (hr r e).2)⟩, h4⟩, ownFrom_below (β := Unit) (Nat.le_refl _) (by omega) () A B row h5 hg hr⟩
    case assign =>
      intro l k W K hK
      gi_wp2
      exact hK
    case body =>
      rintro l pre k W ⟨⟨y4, y6, y7, y8⟩, ⟨hpn, hz⟩, hB⟩ hlen
      have c4 := y4.cell
      have c6 := y6.cell
      have f6 := y6.frozen
      have c7 := y7.cell
      have f7 := y7.frozen
      have c8 := y8.cell
      have f8 := y8.frozen
      have hl1 : (((pre ++ [k]).length : Nat) : Int) = (pre.length : Int) + 1 := by simp
      have hkn : pre ++ [k] = List.range (pre ++ [k]).length → k = pre.length := by
        intro he
        rw [List.length_append, List.length_cons, List.length_nil, Nat.zero_add] at he
        rw [List.range_succ] at he
        obtain ⟨_, h2⟩ := List.append_inj' he rfl
        simpa using h2
      have hl2 : (pre ++ [k]).length - 1 = pre.length := by simp
      obtain ⟨m, hm⟩ : ∃ m, pre.length = m := ⟨_, rfl⟩
      rw [hm] at c8 hl1 hl2 hkn hpn hlen y8
      have HL := Lib.hid hl1
      have HL2 := Lib.hid hl2
      have HKN := Lib.hid hkn
      have HY := Lib.hid (And.intro y4 (And.intro y6 (And.intro y7 y8)))
      have HB := Lib.hid hB
      have hple := pl_le s false k
      clear hl1 hl2 hkn y4 y6 y7 y8 hB hm x4 x6 x7 x8 xa xb hb0 hTW
      by_cases hmn : (m : Int) + 1 = n
      · have hmb : ((m : Int) + 1 == n) = true := by simp; omega
        have HMN := Lib.hid hmn
        clear hmn
        gi_wp2
        obtain ⟨z4, z6, z7, z8⟩ := HY.out
        exact ⟨(KeepsOthers.setCell _ _ _).trans (KeepsOthers.setCell _ _ _), rfl, ⟨pl s false k, ⟨(z6.set _).other (by omega) _, (z7.other (by omega) _).set _⟩, fun he => ⟨by rw [HL.out]; exact HMN.out, by rw [HL2.out, HKN.out he]⟩⟩, (HB.out.setCell (by show w.heap.size ≤ w.heap.size + 1; omega) _).setCell (by show w.heap.size ≤ w.heap.size + 1 + 1; omega) _⟩
      · have hmb : ((m : Int) + 1 == n) = false := by simp; omega
        gi_wp2
        obtain ⟨z4, z6, z7, z8⟩ := HY.out
        refine ⟨KeepsOthers.setCell _ _ _, KeepsAt.of_grown (grownBy_setCell' _ _ _) (fun c hc => ?_), ⟨z4.other (by omega) _, z6.other (by omega) _, z7.other (by omega) _, by rw [HL.out]; exact z8.set _⟩, ⟨by rw [HL.out]; omega, by simpa using hz⟩, HB.out.setCell (by show w.heap.size ≤ w.heap.size + 1 + 1 + 1; omega) _⟩
        have := tabs_lt hT
        simp only [List.mem_cons, List.not_mem_nil, or_false] at hc
        simp only [ne_eq, Option.some.injEq]
        omega
    case done =>
      rintro D xs W hD rfl ⟨⟨y4, y6, y7, y8⟩, ⟨hpn, hz⟩, hB⟩ hK
      rw [List.length_range] at y8 hpn
      have c4 := y4.cell
      have c6 := y6.cell
      have f6 := y6.frozen
      have c7 := y7.cell
      have f7 := y7.frozen
      have c8 := y8.cell
      have HB := Lib.hid hB
      have HY := Lib.hid (And.intro y6 y7)
      have HSZ := Lib.hid hsz
      by_cases hn : (cnt s false : Int) + 1 = n
      · have hmb : (((cnt s false : Nat) : Int) + 1 == n) = true := by simp; omega
        have hpz : placeZ s false n = (((s.size : Nat) : Int), true) := by
          rw [placeZ, if_pos (by omega), show (n - 1).toNat = cnt s false by omega, pl_cnt]
        have HPZ := Lib.hid hpz
        clear hn hpz y4 y6 y7 y8 hB hb0 hTW x4 x6 x7 x8 xa xb hsz
        gi_wp2
        have b6 := (HY.out.1.set (.int .i64 (s.size : Nat))).other (B' := w.heap.size + 1 + 1) (by omega) (.bool true)
        have b7 := (HY.out.2.other (B' := w.heap.size + 1) (by omega) (.int .i64 (s.size : Nat))).set (.bool true)
        have kD := ((KeepsOthers.setCell W ⟨w.heap.size + 1, 0, none⟩ (.int .i64 (s.size : Nat))).trans (KeepsOthers.setCell _ ⟨w.heap.size + 1 + 1, 0, none⟩ (.bool true))).same D _ hK rfl
        have hBY := (HB.out.setCell (p := ⟨w.heap.size + 1, 0, none⟩) (by show w.heap.size ≤ w.heap.size + 1; omega) (.int .i64 (s.size : Nat))).setCell (p := ⟨w.heap.size + 1 + 1, 0, none⟩) (by show w.heap.size ≤ w.heap.size + 1 + 1; omega) (.bool true)
        have hs' := HSZ.out
        have d6 := (b6.kept (grownBy_putObj' _ D (.deferred none)) (fun e => by have := Option.some.inj e; omega)).cell
        have d7 := (b7.kept (grownBy_putObj' _ D (.deferred none)) (fun e => by have := Option.some.inj e; omega)).cell
        refine ⟨by simp, .inl ⟨_, _, rfl, run_takeDeferred kD, .tuple #[.int .i64 (s.size : Nat), .bool true], ?_, by rw [HPZ.out], ?_⟩⟩
        · simp [results, Tryd.results18, go_sem, d6, d7]
        · exact hBY.trans (belowK_b (w := w) (Nat.le_refl _) _ D _ _ (by omega) kD rfl rfl)
      · have hmb : (((cnt s false : Nat) : Int) + 1 == n) = false := by simp; omega
        have hpz : placeZ s false n = (0, false) := by
          rw [placeZ, if_neg (by omega)]
        have HPZ := Lib.hid hpz
        clear hn hpz y4 y6 y7 y8 hB hb0 hTW x4 x6 x7 x8 xa xb hsz
        gi_wp2
        have b6 := (HY.out.1.set (.int .i64 0)).other (B' := w.heap.size + 1 + 1) (by omega) (.bool false)
        have b7 := (HY.out.2.other (B' := w.heap.size + 1) (by omega) (.int .i64 0)).set (.bool false)
        have kD := ((KeepsOthers.setCell W ⟨w.heap.size + 1, 0, none⟩ (.int .i64 0)).trans (KeepsOthers.setCell _ ⟨w.heap.size + 1 + 1, 0, none⟩ (.bool false))).same D _ hK rfl
        have hBY := (HB.out.setCell (p := ⟨w.heap.size + 1, 0, none⟩) (by show w.heap.size ≤ w.heap.size + 1; omega) (.int .i64 0)).setCell (p := ⟨w.heap.size + 1 + 1, 0, none⟩) (by show w.heap.size ≤ w.heap.size + 1 + 1; omega) (.bool false)
        have hs' := HSZ.out
        have d6 := (b6.kept (grownBy_putObj' _ D (.deferred none)) (fun e => by have := Option.some.inj e; omega)).cell
        have d7 := (b7.kept (grownBy_putObj' _ D (.deferred none)) (fun e => by have := Option.some.inj e; omega)).cell
        refine ⟨by simp, .inl ⟨_, _, rfl, run_takeDeferred kD, .tuple #[.int .i64 0, .bool false], ?_, by rw [HPZ.out], ?_⟩⟩
        · simp [results, Tryd.results18, go_sem, d6, d7]
        · exact hBY.trans (belowK_b (w := w) (Nat.le_refl _) _ D _ _ (by omega) kD rfl rfl)
    case stop =>
      rintro D c pre W hD ⟨k, hk, rfl⟩ ⟨rfl, ⟨v, ⟨y6, y7⟩, hv⟩, hB⟩ hK
      obtain ⟨hv1, hv2⟩ := hv (by simp)
      rw [List.length_range] at hv1 hv2
      have hpz : placeZ s false n = (((v : Nat) : Int), true) := by
        rw [placeZ, if_pos (by omega), hv2, show (n - 1).toNat = k - 1 by omega]
      have HPZ := Lib.hid hpz
      clear hpz hv hv1 hv2 hb0 hTW x4 x6 x7 x8 xa xb
      have HSZ := Lib.hid hsz
      have HB := Lib.hid hB
      clear hsz hB
      gi_wp2
      have hs' := HSZ.out
      have d6 := (y6.kept (grownBy_putObj' _ D (.deferred none)) (fun e => by have := Option.some.inj e; omega)).cell
      have d7 := (y7.kept (grownBy_putObj' _ D (.deferred none)) (fun e => by have := Option.some.inj e; omega)).cell
      refine ⟨by simp, .inl ⟨_, _, rfl, run_takeDeferred hK, .tuple #[.int .i64 (v : Nat), .bool true], ?_, by rw [HPZ.out], ?_⟩⟩
      · simp [results, Tryd.results18, go_sem, d6, d7]
      · exact HB.out.trans (belowK_b (w := w) (Nat.le_refl _) _ D _ _ (by omega) hK rfl rfl)
  · rw [cnt_byte] at hcl
    rw [placeZ, cnt_byte, if_pos (by omega), pl_byte s _ (by omega)]
    clear hT
    gi_wp2
    exact ⟨.tuple #[.int .i64 (n - 1), .bool true], by simp [results, Tryd.results18, go_sem], by simp; omega, ((((Below.refl w.heap.size w).alloc (Nat.le_refl _) _).alloc (by simp) _).alloc (by simp; omega) _)⟩
end Go.Proofs.YtaemijgfngdjlaaDoor
