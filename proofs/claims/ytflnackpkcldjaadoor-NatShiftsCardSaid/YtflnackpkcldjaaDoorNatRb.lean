/- The definition of layer 2: Add, Times. -/
import Derived.Test.YtflnackpkcldjaaDoorNatRa
namespace Go.Proofs.YtflnackpkcldjaaDoor
open Go.RowKit Go.Lib

/-- The sum's pieces so far. -/
structure RAdd (xs ys ds : List Nat) (k c : Nat) : Prop where
  len : ds.length = k
  lim : Lim D4 ds
  hc : c ≤ 1
  eq : vl D4 ds + D4 ^ k * c = vl D4 (xs.take k) + vl D4 (ys.take k)
  top : k ≤ xs.length ∨ k ≤ ys.length ∨ c = 0
theorem radd_step {xs ys ds : List Nat} {k c : Nat} (h : RAdd xs ys ds k c) (hx : Lim D4 xs) (hy : Lim D4 ys) (z : Nat) (hz : z = c + xs.getD k 0 + ys.getD k 0) : RAdd xs ys (ds ++ [z % 10000]) (k + 1) (z / 10000) := by
  have b1 := getD_lt hx (by decide) k
  have b2 := getD_lt hy (by decide) k
  have h3 := h.hc
  refine ⟨by rw [List.length_append, h.len]; rfl, lim_append.2 ⟨h.lim, lim_one.2 (Nat.mod_lt _ (by decide))⟩, ?_, ?_, ?_⟩
  · have : z < 20000 := by show z < 20000; have a : D4 = 10000 := rfl; omega
    omega
  · have e1 := h.eq
    have hd : D4 ^ k * z = D4 ^ k * (z % 10000) + D4 ^ k * D4 * (z / 10000) := digit_step (B := 10000) (P := D4 ^ k) (z := z)
    have e2 := congrArg (D4 ^ k * ·) hz
    simp only [Nat.mul_add] at e2
    rw [vl_snoc, h.len, vl_take_get, vl_take_get, Nat.pow_succ]
    omega
  · by_cases a : k < xs.length
    · exact .inl a
    · by_cases b : k < ys.length
      · exact .inr (.inl b)
      · rw [getD_no a, getD_no b] at hz
        exact .inr (.inr (by omega))
theorem radd_end {xs ys ds : List Nat} {k : Nat} (h : RAdd xs ys ds k 0) (hx : xs.length ≤ k) (hy : ys.length ≤ k) : vl D4 ds = vl D4 xs + vl D4 ys := by
  have := h.eq
  rwa [vl_take_all hx, vl_take_all hy, Nat.mul_zero, Nat.add_zero] at this

set_option maxRecDepth 100000 in
set_option maxHeartbeats 4000000 in
theorem radd_any (A A' : Option Addr) (ca cb : Nat) (xs ys : List Nat) (w : World) (hx : Lim D4 xs) (hy : Lim D4 ys) (hxn : xs.length ≤ 1000000) (hyn : ys.length ≤ 1000000) (hra : Rd .i64 w A xs) (hrb : Rd .i64 w A' ys) :
    Calls Tryd.prog 17 #[.slice A xs.length ca, .slice A' ys.length cb] w (Makes .i64 3 w (dig D4 (vl D4 xs + vl D4 ys))) := by
  obtain ⟨i0, hi, hz0, hz1, hz2⟩ := info_parts info_i64
  go_enter Tryd.func17, Tryd.ntmps17
  go_wp2
  go_loopw [5, 6, 7] (fun v c i wr => ∃ (k z : Nat) (ds : List Nat), i = .int .i64 k ∧ c = .int .i64 z ∧ Own .i64 wr w.heap.size 3 v ds ∧ RAdd xs ys ds k z ∧ k ≤ 1000001 ∧ Below w.heap.size w wr) (fun _ _ i _ => xs.length + ys.length + 1 - (RowKit.intOf i).toNat)
  case atStart => exact ⟨0, 0, [], rfl, rfl, Own.nil _ _ _, ⟨rfl, lim_nil _, by omega, by simp [vl], .inl (Nat.zero_le _)⟩, by omega, Below.refl _ _⟩
  case round =>
    obtain ⟨k, z, ds, rfl, rfl, hO, hR, hk, hB⟩ := hrel
    obtain ⟨A5, c5, rfl, _⟩ := hO.slice
    have hz1' : z ≤ 1 := hR.hc
    by_cases hgo : k < xs.length ∨ k < ys.length ∨ 0 < z
    · have hkb : k ≤ 1000000 := by have := hR.top; omega
      have hks : k ≤ xs.length + ys.length := by have := hR.top; omega
      have hdl := hR.len
      have hown := hO.row hdl
      have HDL := Lib.hid hdl
      have hsz := hB.size
      rw [hdl] at hown
      rw [hdl]
      have hg2 : k < xs.length ∨ ¬ k < xs.length := by omega
      obtain ⟨x, hxe, hxk⟩ : ∃ x, xs.getD k 0 = x ∧ x < 10000 := ⟨_, rfl, getD_lt hx (by decide) k⟩
      obtain ⟨y, hye, hyk⟩ : ∃ y, ys.getD k 0 = y ∧ y < 10000 := ⟨_, rfl, getD_lt hy (by decide) k⟩
      have HS := Lib.hid (radd_step hR hx hy (z + x + y) (by rw [hxe, hye]))
      clear hR hdl hO
      have hcx : k < xs.length → ∃ g o, A = some ⟨g, o, none⟩ ∧ wr.cell? ⟨g, o + k, none⟩ = some (.int .i64 (x : Nat)) := fun h => by
        obtain ⟨g, o, e, hc⟩ := (hra.below hB) k h
        exact ⟨g, o, e, by rw [hc, ← getD_of h, hxe]⟩
      have hcy : k < ys.length → ∃ g o, A' = some ⟨g, o, none⟩ ∧ wr.cell? ⟨g, o + k, none⟩ = some (.int .i64 (y : Nat)) := fun h => by
        obtain ⟨g, o, e, hc⟩ := (hrb.below hB) k h
        exact ⟨g, o, e, by rw [hc, ← getD_of h, hye]⟩
      have hx0 : ¬ k < xs.length → x = 0 := fun h => by rw [← hxe]; exact getD_no h
      have hy0 : ¬ k < ys.length → y = 0 := fun h => by rw [← hye]; exact getD_no h
      have HCX := Lib.hid hcx
      have HCY := Lib.hid hcy
      have HX0 := Lib.hid hx0
      have HY0 := Lib.hid hy0
      clear hcx hcy hx0 hy0 hxe hye hg2
      by_cases hlx : k < xs.length
      · by_cases hly : k < ys.length
        · obtain ⟨g, o, rfl, hc⟩ := HCX.out hlx
          obtain ⟨g', o', rfl, hc'⟩ := HCY.out hly
          clear hgo HCX HCY HX0 HY0
          obtain ⟨S, hS⟩ : ∃ S, z + x + y = S := ⟨_, rfl⟩
          rw [hS] at HS
          have hSi : (z : Int) + (x : Int) + (y : Int) = (S : Int) := by omega
          clear hS
          go_wp2_with (at_builtin; refine wpList_append_own _ rfl _ _ 25 rfl w.heap.size 3 i0 (.int .i64 0) 1 8 Tryd.underlying25 hi hz0 hz1 hz2 rfl (by decide) _ _ _ rfl (hown.alloc _) ⟨wr.heap.size, 0, none⟩ 1 1 [.int .i64 ((S % 10000 : Nat) : Int)] rfl rfl (cell_one_new _ _ _) ?c2 ?c3 ?c4 ?c5 ?_)
          case c2 => simp [Value.oneCell']
          case c3 => unfold maxLen; omega
          case c4 => omega
          case c5 => first | omega | (simp; omega)
          intro v' w4 hown' hgrow _
          have hB4 : Below w.heap.size w w4 := (hB.alloc hsz _).grown hgrow (by simp; omega) (fun z e => (hown.lt z e).1)
          have HO1 := Lib.hid (Own.snoc hown' HDL.out.symm)
          clear hown hown' hgrow
          go_wp2
          go_roundw
          case rel => exact ⟨k + 1, S / 10000, ds ++ [S % 10000], vint (by omega), vint (by omega), HO1.out, HS.out, Nat.succ_le_succ hkb, hB4⟩
          case measure => simp [RowKit.intOf]; omega
        · obtain ⟨g, o, rfl, hc⟩ := HCX.out hlx
          obtain rfl := HY0.out hly
          clear hgo HCX HCY HX0 HY0
          obtain ⟨S, hS⟩ : ∃ S, z + x + 0 = S := ⟨_, rfl⟩
          rw [hS] at HS
          have hSi : (z : Int) + (x : Int) = (S : Int) := by omega
          clear hS
          go_wp2_with (at_builtin; refine wpList_append_own _ rfl _ _ 25 rfl w.heap.size 3 i0 (.int .i64 0) 1 8 Tryd.underlying25 hi hz0 hz1 hz2 rfl (by decide) _ _ _ rfl (hown.alloc _) ⟨wr.heap.size, 0, none⟩ 1 1 [.int .i64 ((S % 10000 : Nat) : Int)] rfl rfl (cell_one_new _ _ _) ?c2 ?c3 ?c4 ?c5 ?_)
          case c2 => simp [Value.oneCell']
          case c3 => unfold maxLen; omega
          case c4 => omega
          case c5 => first | omega | (simp; omega)
          intro v' w4 hown' hgrow _
          have hB4 : Below w.heap.size w w4 := (hB.alloc hsz _).grown hgrow (by simp; omega) (fun z e => (hown.lt z e).1)
          have HO1 := Lib.hid (Own.snoc hown' HDL.out.symm)
          clear hown hown' hgrow
          go_wp2
          go_roundw
          case rel => exact ⟨k + 1, S / 10000, ds ++ [S % 10000], vint (by omega), vint (by omega), HO1.out, HS.out, Nat.succ_le_succ hkb, hB4⟩
          case measure => simp [RowKit.intOf]; omega
      · by_cases hly : k < ys.length
        · obtain rfl := HX0.out hlx
          obtain ⟨g', o', rfl, hc'⟩ := HCY.out hly
          clear hgo HCX HCY HX0 HY0
          obtain ⟨S, hS⟩ : ∃ S, z + 0 + y = S := ⟨_, rfl⟩
          rw [hS] at HS
          have hSi : (z : Int) + (y : Int) = (S : Int) := by omega
          clear hS
          go_wp2_with (at_builtin; refine wpList_append_own _ rfl _ _ 25 rfl w.heap.size 3 i0 (.int .i64 0) 1 8 Tryd.underlying25 hi hz0 hz1 hz2 rfl (by decide) _ _ _ rfl (hown.alloc _) ⟨wr.heap.size, 0, none⟩ 1 1 [.int .i64 ((S % 10000 : Nat) : Int)] rfl rfl (cell_one_new _ _ _) ?c2 ?c3 ?c4 ?c5 ?_)
          case c2 => simp [Value.oneCell']
          case c3 => unfold maxLen; omega
          case c4 => omega
          case c5 => first | omega | (simp; omega)
          intro v' w4 hown' hgrow _
          have hB4 : Below w.heap.size w w4 := (hB.alloc hsz _).grown hgrow (by simp; omega) (fun z e => (hown.lt z e).1)
          have HO1 := Lib.hid (Own.snoc hown' HDL.out.symm)
          clear hown hown' hgrow
          go_wp2
          go_roundw
          case rel => exact ⟨k + 1, S / 10000, ds ++ [S % 10000], vint (by omega), vint (by omega), HO1.out, HS.out, Nat.succ_le_succ hkb, hB4⟩
          case measure => simp [RowKit.intOf]; omega
        · obtain rfl := HX0.out hlx
          obtain rfl := HY0.out hly
          have hzp : 0 < z := by omega
          clear hgo HCX HCY HX0 HY0
          go_wp2_with (at_builtin; refine wpList_append_own _ rfl _ _ 25 rfl w.heap.size 3 i0 (.int .i64 0) 1 8 Tryd.underlying25 hi hz0 hz1 hz2 rfl (by decide) _ _ _ rfl (hown.alloc _) ⟨wr.heap.size, 0, none⟩ 1 1 [.int .i64 ((z % 10000 : Nat) : Int)] rfl rfl (cell_one_new _ _ _) ?c2 ?c3 ?c4 ?c5 ?_)
          case c2 => simp [Value.oneCell']
          case c3 => unfold maxLen; omega
          case c4 => omega
          case c5 => first | omega | (simp; omega)
          intro v' w4 hown' hgrow _
          have hB4 : Below w.heap.size w w4 := (hB.alloc hsz _).grown hgrow (by simp; omega) (fun z e => (hown.lt z e).1)
          have HO1 := Lib.hid (Own.snoc hown' HDL.out.symm)
          clear hown hown' hgrow
          go_wp2
          go_roundw
          case rel => exact ⟨k + 1, z / 10000, ds ++ [z % 10000], vint (by omega), vint (by omega), HO1.out, HS.out, Nat.succ_le_succ hkb, hB4⟩
          case measure => simp [RowKit.intOf]; omega
    · have hlx : ¬ k < xs.length := by omega
      have hly : ¬ k < ys.length := by omega
      obtain rfl : z = 0 := by omega
      have he := radd_end hR (by omega) (by omega)
      have hl := hR.len
      have cT := rtrim_own _ _ ds wr hR.lim (by omega) hO
      rw [he] at cT
      have CT := Lib.hid cT
      clear cT hO hR he hl hgo
      go_wp2_with fail
      refine CT.out.mono ?_
      rintro e w' ⟨⟨v', rfl, hO7⟩, rfl⟩
      have HO7 := Lib.hid hO7
      clear hO7 CT
      go_wp2
      go_ret
      exact ⟨_, rfl, HO7.out, hB⟩
end Go.Proofs.YtflnackpkcldjaaDoor
