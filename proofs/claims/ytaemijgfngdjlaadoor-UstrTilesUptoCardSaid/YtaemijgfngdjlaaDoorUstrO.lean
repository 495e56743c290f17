/- Contracts of layer 1: extend, borders. -/
import Derived.Deep.RegionWith
import Derived.Test.YtaemijgfngdjlaaDoorUstrS
import Derived.Test.YtaemijgfngdjlaaDoorUstrN
namespace Go.Proofs.YtaemijgfngdjlaaDoor
open Go.RowKit Go.Lib

theorem list_get (t : ByteArray) (f : Nat) (h : f < t.size) : t.data.toList[f]? = some t[f] := by
  rw [List.getElem?_eq_getElem (by rw [← Lib.size_eq]; exact h)]
  rfl

set_option maxRecDepth 100000 in
set_option maxHeartbeats 1000000 in
theorem extend_any (t : ByteArray) (g n cap f0 : Nat) (c : UInt8) (x : List UInt8) (l : Nat → Nat) (w : World) (ht : 0 < t.size) (hts : t.size ≤ 1048576) (hn : f0 < n)
    (hcell : ∀ j, 1 ≤ j → j ≤ f0 → w.cell? ⟨g, j, none⟩ = some (.int .i64 (l j))) (hl : IsBorders t.data.toList l f0) (hm : IsML t.data.toList x f0) :
    Calls Tryd.prog 39 #[.string t, .slice (some ⟨g, 0, none⟩) n cap, .int .i64 f0, .int .u8 (c.toNat : Nat)] w fun e w' => (∃ r : Nat, e = .returned (.int .i64 r) ∧ IsML t.data.toList (x ++ [c]) r) ∧ w = w' := by
  have hf0 : f0 ≤ t.size := by have := hm.1.1; rw [← Lib.size_eq] at this; exact this
  have G0 := grows_start (c := c) hm
  go_enter Tryd.func39, Tryd.ntmps39
  go_wp2
  go_loop [2] (fun p => ∃ f : Nat, f ≤ f0 ∧ p = .int .i64 f ∧ Grows t.data.toList x c f) (fun p => (RowKit.intOf p).toNat)
  case atStart => exact ⟨f0, Nat.le_refl _, rfl, G0⟩
  case round =>
    obtain ⟨f, hf, rfl, hG⟩ := hrel
    by_cases hz : f = 0
    · subst hz
      have hget := list_get t 0 ht
      by_cases hc : t[0] = c
      · have hI := grows_yes hG (by rw [hget, hc])
        have HI := Lib.hid hI
        have hcc : ((t[0].toNat : Int) == (c.toNat : Int)) = true := by rw [hc]; simp
        clear hI hget hG G0 hm hl hcell hc
        go_wp2
        go_ret
        exact ⟨⟨1, rfl, HI.out⟩, rfl⟩
      · have hI := grows_no hG (by rw [hget]; intro e; exact hc (Option.some.inj e))
        have HI := Lib.hid hI
        have hcc : ((t[0].toNat : Int) == (c.toNat : Int)) = false := by
          have : t[0].toNat ≠ c.toNat := fun e => hc (UInt8.toNat_inj.1 e)
          simp; omega
        clear hI hget hG G0 hm hl hcell hc
        go_wp2
        go_ret
        exact ⟨⟨0, rfl, HI.out⟩, rfl⟩
    · have hcl := hcell f (by omega) hf
      have hlf := hl f (by omega) hf
      have hlt := isML_border_lt (by omega) (by rw [← Lib.size_eq]; omega) hlf
      have hfz : ¬ f ≤ 0 := by omega
      by_cases hft : f = t.size
      · have hG2 := grows_step hG (by rw [List.getElem?_eq_none (by rw [← Lib.size_eq]; omega)]; exact fun e => by cases e) hlf
        have HG := Lib.hid hG2
        have hfe : ((f : Int) == (t.size : Int)) = true := by simp; omega
        clear hG2 hG G0 hm hl hcell hlf
        have HFT := Lib.hid hft; clear hft
        go_wp2
        go_round
        case rel => exact ⟨l f, by omega, rfl, HG.out⟩
        case measure => simp [RowKit.intOf]; omega
      · have hflt : f < t.size := by omega
        have hget := list_get t f hflt
        have hfe : ((f : Int) == (t.size : Int)) = false := by simp; omega
        by_cases hc : t[f] = c
        · have hI := grows_yes hG (by rw [hget, hc])
          have HI := Lib.hid hI
          have hcc : ((t[f].toNat : Int) == (c.toNat : Int)) = true := by rw [hc]; simp
          have hcn : ((t[f].toNat : Int) != (c.toNat : Int)) = false := by rw [hc]; simp
          clear hI hget hG G0 hm hl hcell hc hlf hcl
          go_wp2
          go_ret
          exact ⟨⟨f + 1, by go_num, HI.out⟩, rfl⟩
        · have hG2 := grows_step hG (by rw [hget]; intro e; exact hc (Option.some.inj e)) hlf
          have HG := Lib.hid hG2
          have hne : t[f].toNat ≠ c.toNat := fun e => hc (UInt8.toNat_inj.1 e)
          have hcn : ((t[f].toNat : Int) != (c.toNat : Int)) = true := by simp; omega
          clear hG2 hG G0 hm hl hcell hlf hget hc hne
          go_wp2
          go_round
          case rel => exact ⟨l f, by omega, rfl, HG.out⟩
          case measure => simp [RowKit.intOf]; omega

/-- The list with one border more. -/
theorem border_store (t : ByteArray) (g k r : Nat) (l : Nat → Nat) (W : World) (hk1 : 1 ≤ k) (hlt : k < t.size) (h1 : ∀ j, 1 ≤ j → j ≤ k → W.cell? ⟨g, j, none⟩ = some (.int .i64 (l j : Nat))) (h2 : IsBorders t.data.toList l k)
    (h3 : ∀ j, j < t.size + 1 → (W.cell? ⟨g, j, none⟩).isSome = true ∧ W.frozen? ⟨g, j, none⟩ = false) (hr : IsML t.data.toList ((t.data.toList.take k).drop 1 ++ [t[k]]) r) :
    (∃ l : Nat → Nat, (∀ j, 1 ≤ j → j ≤ k + 1 → ((W.setCell ⟨g, k + 1, none⟩ (.int .i64 (r : Nat))).drew).cell? ⟨g, j, none⟩ = some (.int .i64 (l j : Nat))) ∧ IsBorders t.data.toList l (k + 1)) ∧
      (∀ j, j < t.size + 1 → (((W.setCell ⟨g, k + 1, none⟩ (.int .i64 (r : Nat))).drew).cell? ⟨g, j, none⟩).isSome = true ∧ ((W.setCell ⟨g, k + 1, none⟩ (.int .i64 (r : Nat))).drew).frozen? ⟨g, j, none⟩ = false) := by
  have same : ((W.setCell ⟨g, k + 1, none⟩ (.int .i64 (r : Nat))).drew).cell? ⟨g, k + 1, none⟩ = some (.int .i64 (r : Nat)) := World.cell?_setCell_same' _ _ _ (h3 (k + 1) (by omega)).1
  have other : ∀ j, j ≠ k + 1 → ((W.setCell ⟨g, k + 1, none⟩ (.int .i64 (r : Nat))).drew).cell? ⟨g, j, none⟩ = W.cell? ⟨g, j, none⟩ := fun j hj => World.cell?_setCell_other _ _ _ _ (by intro e; cases e; exact hj rfl)
  refine ⟨⟨fun j => if j = k + 1 then r else l j, fun j a b => ?_, fun j a b => ?_⟩, fun j hj => ⟨?_, ?_⟩⟩
  · by_cases e : j = k + 1
    · subst e; simp only [if_true]; exact same
    · rw [other j e]; simp only [if_neg e]; exact h1 j a (by omega)
  · by_cases e : j = k + 1
    · subst e
      simp only [if_true]
      rw [border_next t.data.toList k hk1 (by rw [← Lib.size_eq]; exact hlt)]
      exact hr
    · simp only [if_neg e]; exact h2 j a (by omega)
  · by_cases e : j = k + 1
    · subst e; rw [same]; rfl
    · rw [other j e]; exact (h3 j hj).1
  · exact (World.frozen?_setCell _ _ _ _).trans (h3 j hj).2

set_option maxRecDepth 100000 in
set_option maxHeartbeats 1000000 in
theorem borders_any (t : ByteArray) (w : World) (ht : 0 < t.size) (hts : t.size ≤ 1048576) :
    Calls Tryd.prog 38 #[.string t] w fun e w' => ∃ g l, e = .returned (.slice (some ⟨g, 0, none⟩) (t.size + 1) (t.size + 1)) ∧ w.heap.size ≤ g ∧ (∀ j, 1 ≤ j → j ≤ t.size → w'.cell? ⟨g, j, none⟩ = some (.int .i64 (l j : Nat))) ∧ IsBorders t.data.toList l t.size ∧ Below w.heap.size w w' := by
  obtain ⟨i0, hi, hz0, hz1, hz2⟩ := info_parts info_int
  have htl : 1 ≤ t.data.toList.length := by rw [← Lib.size_eq]; exact ht
  go_enter Tryd.func38, Tryd.ntmps38
  go_wp2_with (at_make; refine wpList_make_full _ rfl _ _ 29 rfl w.heap.size 3 i0 (.int .i64 0) 1 Tryd.underlying29 hi hz0 hz1 .i64 .i64 _ _ (t.size + 1) rfl rfl (by go_num) (by go_num) ?c2 ?c3 (Nat.le_refl _) ?_)
  case c2 => rw [hz2]; omega
  case c3 => unfold maxLen; omega
  intro w1 hown hgrow
  have hcell : ∀ j, j < t.size + 1 → w1.cell? ⟨w.heap.size, j, none⟩ = some (.int .i64 0) ∧ w1.frozen? ⟨w.heap.size, j, none⟩ = false := fun j hj => by
    refine ⟨?_, hown.frozenAt j⟩
    rw [hown.cellAt j (by omega)]
    show (madeCells #[Value.int .i64 0] (t.size + 1)).toList[j]? = _
    rw [toList_madeCells_one, List.getElem?_replicate, if_pos (by omega)]
  have hB1 : Below w.heap.size w w1 := (Below.refl _ _).grown hgrow (Nat.le_refl _) (fun k e => by cases e)
  have hgl : w.heap.size < w1.heap.size := lt_of_cell (hcell 0 (by omega)).1
  have HC := Lib.hid hcell; clear hcell hown hgrow
  go_wp2
  go_loopw [4] (fun p wr => ∃ k : Nat, 1 ≤ k ∧ k ≤ t.size ∧ p = .int .i64 k ∧ (∃ l : Nat → Nat, (∀ j, 1 ≤ j → j ≤ k → wr.cell? ⟨w.heap.size, j, none⟩ = some (.int .i64 (l j : Nat))) ∧ IsBorders t.data.toList l k) ∧
      (∀ j, j < t.size + 1 → (wr.cell? ⟨w.heap.size, j, none⟩).isSome = true ∧ wr.frozen? ⟨w.heap.size, j, none⟩ = false) ∧ Below w.heap.size w wr) (fun p _ => t.size - (RowKit.intOf p).toNat)
  case atStart =>
    refine ⟨1, Nat.le_refl _, ht, rfl, ⟨fun _ => 0, fun j _ hj => (HC.out j (by omega)).1, fun j h1 h2 => ?_⟩, fun j hj => ⟨by rw [(HC.out j hj).1]; rfl, (HC.out j hj).2⟩, hB1⟩
    obtain rfl : j = 1 := by omega
    exact border_one _ htl
  case round =>
    obtain ⟨k, hk1, hk, rfl, ⟨l, hl1, hl2⟩, hrow, hB⟩ := hrel
    by_cases hlt : k < t.size
    · have hcl := hl1 k hk1 (Nat.le_refl _)
      have hlk := hl2 k hk1 (Nat.le_refl _)
      have hlb := isML_border_lt hk1 (by rw [← Lib.size_eq]; omega) hlk
      obtain ⟨hs1, hs2⟩ := hrow (k + 1) (by omega)
      obtain ⟨u, hu⟩ := Option.isSome_iff_exists.1 hs1
      clear hs1
      have cE := fun (W : World) (h : ∀ j, 1 ≤ j → j ≤ l k → W.cell? ⟨w.heap.size, j, none⟩ = some (.int .i64 (l j : Nat))) => extend_any t w.heap.size (t.size + 1) (t.size + 1) (l k) t[k] ((t.data.toList.take k).drop 1) l W ht hts (by omega) h (fun j h1 h2 => hl2 j h1 (by omega)) hlk
      have HL1 := Lib.hid hl1
      have HL2 := Lib.hid hl2
      have HROW := Lib.hid hrow
      have HLK := Lib.hid hlk
      obtain ⟨a, ha⟩ : ∃ a, l k = a := ⟨_, rfl⟩
      have HA := Lib.hid ha
      rw [ha] at hcl hlb cE
      have CE := Lib.hid cE
      clear cE hl1 hl2 hrow hlk ha
      have s1 : IntKind.i64.wrap ((k : Int) + 1) = (k : Int) + 1 := IntWalk.i64_in _ (by omega)
      have s2 : 0 ≤ (k : Int) + 1 := by omega
      have s3 : ((k : Int) + 1).toNat = k + 1 := by omega
      have s4 : (k : Int) + 1 < (t.size : Int) + 1 := by omega
      have s5 : (k : Int) < (t.size : Int) + 1 := by omega
      have s6 : (k : Int) < (t.size : Int) := by omega
      go_wp2
      go_region_with (go_at_call 39; go_must (refine (CE.out _ ?_).mono ?_); exact (fun j h1 h2 => HL1.out j h1 (by omega)); rintro e w' ⟨⟨r, rfl, hr⟩, rfl⟩)
      all_goals
        clear s1 s2 s3 s4 s5
        obtain ⟨b1, b2⟩ := border_store t w.heap.size k r l wr hk1 hlt HL1.out HL2.out HROW.out hr
        have hB2 : Below w.heap.size w ((wr.setCell ⟨w.heap.size, k + 1, none⟩ (.int .i64 (r : Nat))).drew) := (hB.setCell (Nat.le_refl _) _).drew
        have B1 := Lib.hid b1
        have B2 := Lib.hid b2
        clear b1 b2 hr hu hs2 hcl
        go_wp2
        go_roundw
        case rel => exact ⟨k + 1, by omega, by omega, by go_num, B1.out, B2.out, hB2⟩
        case measure => simp [RowKit.intOf]; omega
    · have hke : k = t.size := by omega
      have HL1 := Lib.hid hl1
      have HL2 := Lib.hid hl2
      have HKE := Lib.hid hke
      clear hl1 hl2 hrow hke
      go_wp2
      go_ret
      exact ⟨w.heap.size, l, rfl, Nat.le_refl _, by rw [← HKE.out]; exact HL1.out, by rw [← HKE.out]; exact HL2.out, hB⟩
end Go.Proofs.YtaemijgfngdjlaaDoor
