/- Several texts in one (The definition of layer 2: Add, Times; The definition of layer 2: Mul; The definition of layer 3: Parts, above; The definition of layer 2: Text; The definition of layer 2: Parse; The definition of layer 3: Read, by halves; The definition of layer 3: Read's bisection; The definition of layer 4: isDigit, blank, hex, Same; Plain: numbers far below and far above all floats. No walk here; The definition of layer 4: value, of no more than 1000 digits; The definition of layer 4: value, of one digit to 1000 behind the noughts). -/
import Derived.WalkSpells
import Derived.Test.YtmceakbjholjpaaGreatDoorQci2
import Derived.Test.YtmceakbjholjpaaGreatDoorQci3
import Derived.Test.YtmceakbjholjpaaGreatDoorQci5
import Derived.Test.YtmceakbjholjpaaGreatDoorQci7
namespace Go.Proofs.YtmceakbjholjpaaGreatDoor
open Go.RowKit Go.Lib

/-- The sum's pieces so far. -/
structure RAdd (xs ys ds : List Nat) (k c : Nat) : Prop where
  len : ds.length = k
  lim : Lim D4 ds
  hc : c ≤ 1
  eq : vl D4 ds + D4 ^ k * c = vl D4 (xs.take k) + vl D4 (ys.take k)
  top : k ≤ xs.length ∨ k ≤ ys.length ∨ c = 0
theorem radd_step {xs ys ds : List Nat} {k c : Nat} (h : RAdd xs ys ds k c) (hx : Lim D4 xs) (hy : Lim D4 ys) (z : Nat) (hz : z = c + xs.getD k 0 + ys.getD k 0) : RAdd xs ys (ds ++ [z % 10000]) (k + 1) (z / 10000) := by
  have b1 := getD_lt hx (by decide) k
  have b2 := getD_lt hy (by decide) k
  have h3 := h.hc
  refine ⟨by rw [List.length_append, h.len]; rfl, lim_append.2 ⟨h.lim, lim_one.2 (Nat.mod_lt _ (by decide))⟩, ?_, ?_, ?_⟩
  · have : z < 20000 := by show z < 20000; have a : D4 = 10000 := rfl; omega
    omega
  · have e1 := h.eq
    have hd : D4 ^ k * z = D4 ^ k * (z % 10000) + D4 ^ k * D4 * (z / 10000) := digit_step (B := 10000) (P := D4 ^ k) (z := z)
    have e2 := congrArg (D4 ^ k * ·) hz
    simp only [Nat.mul_add] at e2
    rw [vl_snoc, h.len, vl_take_get, vl_take_get, Nat.pow_succ]
    omega
  · by_cases a : k < xs.length
    · exact .inl a
    · by_cases b : k < ys.length
      · exact .inr (.inl b)
      · rw [getD_no a, getD_no b] at hz
        exact .inr (.inr (by omega))
theorem radd_end {xs ys ds : List Nat} {k : Nat} (h : RAdd xs ys ds k 0) (hx : xs.length ≤ k) (hy : ys.length ≤ k) : vl D4 ds = vl D4 xs + vl D4 ys := by
  have := h.eq
  rwa [vl_take_all hx, vl_take_all hy, Nat.mul_zero, Nat.add_zero] at this

set_option maxRecDepth 100000 in
set_option maxHeartbeats 4000000 in
theorem radd_any (A A' : Option Addr) (ca cb : Nat) (xs ys : List Nat) (w : World) (hx : Lim D4 xs) (hy : Lim D4 ys) (hxn : xs.length ≤ 1000000) (hyn : ys.length ≤ 1000000) (hra : Rd .i64 w A xs) (hrb : Rd .i64 w A' ys) :
    Calls Tryz.prog 258 #[.slice A xs.length ca, .slice A' ys.length cb] w (Makes .i64 3 w (dig D4 (vl D4 xs + vl D4 ys))) := by
  obtain ⟨i0, hi, hz0, hz1, hz2⟩ := info_parts info_i64
  go_enter Tryz.func258, Tryz.ntmps258
  go_wp2
  go_loopw [5, 6, 7] (fun v c i wr => ∃ (k z : Nat) (ds : List Nat), i = .int .i64 k ∧ c = .int .i64 z ∧ Own .i64 wr w.heap.size 3 v ds ∧ RAdd xs ys ds k z ∧ k ≤ 1000001 ∧ Below w.heap.size w wr) (fun _ _ i _ => xs.length + ys.length + 1 - (RowKit.intOf i).toNat)
  case atStart => exact ⟨0, 0, [], rfl, rfl, Own.nil _ _ _, ⟨rfl, lim_nil _, by omega, by simp [vl], .inl (Nat.zero_le _)⟩, by omega, Below.refl _ _⟩
  case round =>
    obtain ⟨k, z, ds, rfl, rfl, hO, hR, hk, hB⟩ := hrel
    obtain ⟨A5, c5, rfl, _⟩ := hO.slice
    have hz1' : z ≤ 1 := hR.hc
    by_cases hgo : k < xs.length ∨ k < ys.length ∨ 0 < z
    · have hkb : k ≤ 1000000 := by have := hR.top; omega
      have hks : k ≤ xs.length + ys.length := by have := hR.top; omega
      have hdl := hR.len
      have hown := hO.row hdl
      have HDL := Lib.hid hdl
      have hsz := hB.size
      rw [hdl] at hown
      rw [hdl]
      have hg2 : k < xs.length ∨ ¬ k < xs.length := by omega
      obtain ⟨x, hxe, hxk⟩ : ∃ x, xs.getD k 0 = x ∧ x < 10000 := ⟨_, rfl, getD_lt hx (by decide) k⟩
      obtain ⟨y, hye, hyk⟩ : ∃ y, ys.getD k 0 = y ∧ y < 10000 := ⟨_, rfl, getD_lt hy (by decide) k⟩
      have HS := Lib.hid (radd_step hR hx hy (z + x + y) (by rw [hxe, hye]))
      clear hR hdl hO
      have hcx : k < xs.length → ∃ g o, A = some ⟨g, o, none⟩ ∧ wr.cell? ⟨g, o + k, none⟩ = some (.int .i64 (x : Nat)) := fun h => by
        obtain ⟨g, o, e, hc⟩ := (hra.below hB) k h
        exact ⟨g, o, e, by rw [hc, ← getD_of h, hxe]⟩
      have hcy : k < ys.length → ∃ g o, A' = some ⟨g, o, none⟩ ∧ wr.cell? ⟨g, o + k, none⟩ = some (.int .i64 (y : Nat)) := fun h => by
        obtain ⟨g, o, e, hc⟩ := (hrb.below hB) k h
        exact ⟨g, o, e, by rw [hc, ← getD_of h, hye]⟩
      have hx0 : ¬ k < xs.length → x = 0 := fun h => by rw [← hxe]; exact getD_no h
      have hy0 : ¬ k < ys.length → y = 0 := fun h => by rw [← hye]; exact getD_no h
      have HCX := Lib.hid hcx
      have HCY := Lib.hid hcy
      have HX0 := Lib.hid hx0
      have HY0 := Lib.hid hy0
      clear hcx hcy hx0 hy0 hxe hye hg2
      by_cases hlx : k < xs.length
      · by_cases hly : k < ys.length
        · obtain ⟨g, o, rfl, hc⟩ := HCX.out hlx
          obtain ⟨g', o', rfl, hc'⟩ := HCY.out hly
          clear hgo HCX HCY HX0 HY0
          obtain ⟨S, hS⟩ : ∃ S, z + x + y = S := ⟨_, rfl⟩
          rw [hS] at HS
          have hSi : (z : Int) + (x : Int) + (y : Int) = (S : Int) := by omega
          clear hS
          go_wp2_with (at_builtin; refine wpList_append_own _ rfl _ _ 269 rfl w.heap.size 3 i0 (.int .i64 0) 1 8 Tryz.underlying269 hi hz0 hz1 hz2 rfl (by decide) _ _ _ rfl (hown.alloc _) ⟨wr.heap.size, 0, none⟩ 1 1 [.int .i64 ((S % 10000 : Nat) : Int)] rfl rfl (cell_one_new _ _ _) ?c2 ?c3 ?c4 ?c5 ?_)
          case c2 => simp [Value.oneCell']
          case c3 => unfold maxLen; omega
          case c4 => omega
          case c5 => first | omega | (simp; omega)
          intro v' w4 hown' hgrow _
          have hB4 : Below w.heap.size w w4 := (hB.alloc hsz _).grown hgrow (by simp; omega) (fun z e => (hown.lt z e).1)
          have HO1 := Lib.hid (Own.snoc hown' HDL.out.symm)
          clear hown hown' hgrow
          go_wp2
          go_roundw
          case rel => exact ⟨k + 1, S / 10000, ds ++ [S % 10000], vint (by omega), vint (by omega), HO1.out, HS.out, Nat.succ_le_succ hkb, hB4⟩
          case measure => simp [RowKit.intOf]; omega
        · obtain ⟨g, o, rfl, hc⟩ := HCX.out hlx
          obtain rfl := HY0.out hly
          clear hgo HCX HCY HX0 HY0
          obtain ⟨S, hS⟩ : ∃ S, z + x + 0 = S := ⟨_, rfl⟩
          rw [hS] at HS
          have hSi : (z : Int) + (x : Int) = (S : Int) := by omega
          clear hS
          go_wp2_with (at_builtin; refine wpList_append_own _ rfl _ _ 269 rfl w.heap.size 3 i0 (.int .i64 0) 1 8 Tryz.underlying269 hi hz0 hz1 hz2 rfl (by decide) _ _ _ rfl (hown.alloc _) ⟨wr.heap.size, 0, none⟩ 1 1 [.int .i64 ((S % 10000 : Nat) : Int)] rfl rfl (cell_one_new _ _ _) ?c2 ?c3 ?c4 ?c5 ?_)
          case c2 => simp [Value.oneCell']
          case c3 => unfold maxLen; omega
          case c4 => omega
          case c5 => first | omega | (simp; omega)
          intro v' w4 hown' hgrow _
          have hB4 : Below w.heap.size w w4 := (hB.alloc hsz _).grown hgrow (by simp; omega) (fun z e => (hown.lt z e).1)
          have HO1 := Lib.hid (Own.snoc hown' HDL.out.symm)
          clear hown hown' hgrow
          go_wp2
          go_roundw
          case rel => exact ⟨k + 1, S / 10000, ds ++ [S % 10000], vint (by omega), vint (by omega), HO1.out, HS.out, Nat.succ_le_succ hkb, hB4⟩
          case measure => simp [RowKit.intOf]; omega
      · by_cases hly : k < ys.length
        · obtain rfl := HX0.out hlx
          obtain ⟨g', o', rfl, hc'⟩ := HCY.out hly
          clear hgo HCX HCY HX0 HY0
          obtain ⟨S, hS⟩ : ∃ S, z + 0 + y = S := ⟨_, rfl⟩
          rw [hS] at HS
          have hSi : (z : Int) + (y : Int) = (S : Int) := by omega
          clear hS
          go_wp2_with (at_builtin; refine wpList_append_own _ rfl _ _ 269 rfl w.heap.size 3 i0 (.int .i64 0) 1 8 Tryz.underlying269 hi hz0 hz1 hz2 rfl (by decide) _ _ _ rfl (hown.alloc _) ⟨wr.heap.size, 0, none⟩ 1 1 [.int .i64 ((S % 10000 : Nat) : Int)] rfl rfl (cell_one_new _ _ _) ?c2 ?c3 ?c4 ?c5 ?_)
          case c2 => simp [Value.oneCell']
          case c3 => unfold maxLen; omega
          case c4 => omega
          case c5 => first | omega | (simp; omega)
          intro v' w4 hown' hgrow _
          have hB4 : Below w.heap.size w w4 := (hB.alloc hsz _).grown hgrow (by simp; omega) (fun z e => (hown.lt z e).1)
          have HO1 := Lib.hid (Own.snoc hown' HDL.out.symm)
          clear hown hown' hgrow
          go_wp2
          go_roundw
          case rel => exact ⟨k + 1, S / 10000, ds ++ [S % 10000], vint (by omega), vint (by omega), HO1.out, HS.out, Nat.succ_le_succ hkb, hB4⟩
          case measure => simp [RowKit.intOf]; omega
        · obtain rfl := HX0.out hlx
          obtain rfl := HY0.out hly
          have hzp : 0 < z := by omega
          clear hgo HCX HCY HX0 HY0
          go_wp2_with (at_builtin; refine wpList_append_own _ rfl _ _ 269 rfl w.heap.size 3 i0 (.int .i64 0) 1 8 Tryz.underlying269 hi hz0 hz1 hz2 rfl (by decide) _ _ _ rfl (hown.alloc _) ⟨wr.heap.size, 0, none⟩ 1 1 [.int .i64 ((z % 10000 : Nat) : Int)] rfl rfl (cell_one_new _ _ _) ?c2 ?c3 ?c4 ?c5 ?_)
          case c2 => simp [Value.oneCell']
          case c3 => unfold maxLen; omega
          case c4 => omega
          case c5 => first | omega | (simp; omega)
          intro v' w4 hown' hgrow _
          have hB4 : Below w.heap.size w w4 := (hB.alloc hsz _).grown hgrow (by simp; omega) (fun z e => (hown.lt z e).1)
          have HO1 := Lib.hid (Own.snoc hown' HDL.out.symm)
          clear hown hown' hgrow
          go_wp2
          go_roundw
          case rel => exact ⟨k + 1, z / 10000, ds ++ [z % 10000], vint (by omega), vint (by omega), HO1.out, HS.out, Nat.succ_le_succ hkb, hB4⟩
          case measure => simp [RowKit.intOf]; omega
    · have hlx : ¬ k < xs.length := by omega
      have hly : ¬ k < ys.length := by omega
      obtain rfl : z = 0 := by omega
      have he := radd_end hR (by omega) (by omega)
      have hl := hR.len
      have cT := rtrim_own _ _ ds wr hR.lim (by omega) hO
      rw [he] at cT
      have CT := Lib.hid cT
      clear cT hO hR he hl hgo
      go_wp2_with fail
      refine CT.out.mono ?_
      rintro e w' ⟨⟨v', rfl, hO7⟩, rfl⟩
      have HO7 := Lib.hid hO7
      clear hO7 CT
      go_wp2
      go_ret
      exact ⟨_, rfl, HO7.out, hB⟩
end Go.Proofs.YtmceakbjholjpaaGreatDoor

namespace Go.Proofs.YtmceakbjholjpaaGreatDoor
open Go.RowKit Go.Lib

/-- The state of the inner loop. -/
structure RMul (base cur : List Nat) (i j c x : Nat) (ys : List Nat) : Prop where
  len : cur.length = base.length
  lim : Lim D4 cur
  hc : c < 10000
  eq : vl D4 cur + D4 ^ (i + j) * c = vl D4 base + D4 ^ i * (x * vl D4 (ys.take j))
theorem rmul_start {base : List Nat} (h : Lim D4 base) (i x : Nat) (ys : List Nat) : RMul base base i 0 0 x ys := ⟨rfl, h, by omega, by simp [vl]⟩
theorem rmul_step {base cur ys : List Nat} {i j c x : Nat} (h : RMul base cur i j c x ys) (hx : x < 10000) (hy : Lim D4 ys) (hi : i + j < cur.length) (z : Nat) (hz : z = c + cur[i + j] + x * ys.getD j 0) :
    RMul base (cur.set (i + j) (z % 10000)) i (j + 1) (z / 10000) x ys := by
  have b1 : ys.getD j 0 < 10000 := getD_lt hy (by decide) j
  have b2 : cur[i + j] < 10000 := lim_get h.lim (i + j) hi
  refine ⟨by rw [List.length_set, h.len], lim_set h.lim (Nat.mod_lt _ (by decide)), ?_, ?_⟩
  · have h1 : x * ys.getD j 0 ≤ 9999 * 9999 := Nat.mul_le_mul (by omega) (by omega)
    have h3 := h.hc
    omega
  · have e1 := vl_set D4 cur (i + j) (z % 10000) hi
    have e2 := h.eq
    have hd : D4 ^ (i + j) * z = D4 ^ (i + j) * (z % 10000) + D4 ^ (i + j) * D4 * (z / 10000) := digit_step (B := 10000) (P := D4 ^ (i + j)) (z := z)
    have e3 := congrArg (D4 ^ (i + j) * ·) hz
    have e4 : D4 ^ i * (x * (D4 ^ j * ys.getD j 0)) = D4 ^ (i + j) * (x * ys.getD j 0) := by rw [Nat.pow_add, Nat.mul_left_comm x, Nat.mul_assoc]
    rw [vl_take_get, show i + (j + 1) = (i + j) + 1 by omega, Nat.pow_succ]
    simp only [Nat.mul_add] at e3 ⊢
    rw [e4]
    omega
/-- Beyond the second number's last piece and one more nothing is carried. -/
theorem rmul_carry {base cur xs ys : List Nat} {i j c x : Nat} (h : RMul base cur i j c x ys) (hv : vl D4 base = vl D4 (xs.take i) * vl D4 ys) (hxi : i < xs.length) (hxx : xs[i] = x) (hx : Lim D4 xs) (hy : Lim D4 ys) (hj : ys.length ≤ j) (hc : 0 < c) : j ≤ ys.length := by
  have e := h.eq
  rw [vl_take_all hj, hv] at e
  have e2 : vl D4 (xs.take i) * vl D4 ys + D4 ^ i * (x * vl D4 ys) = vl D4 (xs.take (i + 1)) * vl D4 ys := by
    rw [vl_take_succ D4 xs i hxi, hxx, Nat.add_mul, Nat.mul_assoc]
  rw [e2] at e
  have h1 : vl D4 (xs.take (i + 1)) < D4 ^ (i + 1) := by
    have := vl_lt (lim_take hx (i + 1))
    rwa [List.length_take, Nat.min_eq_left (by omega)] at this
  have h2 := vl_lt hy
  have h3 : vl D4 (xs.take (i + 1)) * vl D4 ys < D4 ^ (i + 1) * D4 ^ ys.length := Nat.mul_lt_mul'' h1 h2
  rw [← Nat.pow_add] at h3
  have h4 : D4 ^ (i + j) * 1 ≤ D4 ^ (i + j) * c := Nat.mul_le_mul_left _ hc
  have h5 : D4 ^ (i + j) < D4 ^ (i + 1 + ys.length) := by omega
  have := (Nat.pow_lt_pow_iff_right (show 1 < D4 by decide)).1 h5
  omega
theorem at_madeI (w : World) (n : Nat) : At .i64 (w.alloc (.cells (madeCells #[Value.int .i64 0] n) 3)) w.heap.size 3 [] (List.replicate n 0) [] := by
  refine ⟨_, heap_alloc_new w _, ?_⟩
  rw [toList_madeCells_one, nums, List.map_replicate]
  simp

set_option maxRecDepth 100000 in
set_option maxHeartbeats 4000000 in
theorem rmul_any (A A' : Option Addr) (ca cb : Nat) (xs ys : List Nat) (w : World) (hx : Lim D4 xs) (hy : Lim D4 ys) (hxn : xs.length ≤ 1000000) (hyn : ys.length ≤ 1000000) (hra : Rd .i64 w A xs) (hrb : Rd .i64 w A' ys) :
    Calls Tryz.prog 259 #[.slice A xs.length ca, .slice A' ys.length cb] w (Makes .i64 3 w (dig D4 (vl D4 xs * vl D4 ys))) := by
  obtain ⟨i0, hi, hz0, hz1, hz2⟩ := info_parts info_i64
  have hmk : ∀ W : World, (Instr.makeSlice 269 (.int .i64 ((xs.length : Int) + (ys.length : Int) + 1)) (.int .i64 ((xs.length : Int) + (ys.length : Int) + 1))).run Tryz.prog W = .ok (.slice (some ⟨W.heap.size, 0, none⟩) (xs.length + ys.length + 1) (xs.length + ys.length + 1)) (W.alloc (.cells (madeCells (Value.int .i64 0).cells ((xs.length + ys.length + 1) * 1)) 3)) := fun W => by
    have := run_make (P := Tryz.prog) W 269 3 i0 (.int .i64 0) Tryz.underlying269 hi hz0 .i64 .i64 ((xs.length : Int) + (ys.length : Int) + 1) ((xs.length : Int) + (ys.length : Int) + 1) (by omega) (by omega) (by rw [hz2]; omega) (by omega)
    rw [hz1, show ((xs.length : Int) + (ys.length : Int) + 1).toNat = xs.length + ys.length + 1 by omega] at this
    exact this
  clear hi hz0 hz1 hz2
  go_enter Tryz.func259, Tryz.ntmps259
  go_wp2
  have fN := at_madeI w (xs.length + ys.length + 1)
  have hBa := (Below.refl w.heap.size w).alloc (Nat.le_refl _) (.cells (madeCells #[Value.int .i64 0] (xs.length + ys.length + 1)) 3)
  obtain ⟨g, hg⟩ : ∃ g, w.heap.size = g := ⟨_, rfl⟩
  have hgB : w.heap.size ≤ g := by omega
  rw [hg] at fN
  rw [hg]
  have HG := Lib.hid hg
  clear hg
  go_loopw [6] (fun i wr => ∃ (k : Nat) (cur : List Nat), k ≤ xs.length ∧ i = .int .i64 k ∧ At .i64 wr g 3 [] cur [] ∧ cur.length = xs.length + ys.length + 1 ∧ Lim D4 cur ∧ vl D4 cur = vl D4 (xs.take k) * vl D4 ys ∧ Below w.heap.size w wr) (fun i _ => xs.length - (RowKit.intOf i).toNat)
  case atStart => exact ⟨0, _, Nat.zero_le _, rfl, fN, List.length_replicate, lim_zeros (by decide) _, by rw [vl_zeros]; simp [vl], hBa⟩
  case round =>
    clear fN hBa
    obtain ⟨k, cur, hk, rfl, fA, hlen, hL, hv, hB⟩ := hrel
    have HLEN := Lib.hid hlen
    have HV := Lib.hid hv
    clear hlen hv
    by_cases hlt : k < xs.length
    · obtain ⟨ga, oa, rfl, hca⟩ := hra k hlt
      obtain ⟨x, hxe, hxk⟩ := lim4 hx k hlt
      rw [hxe] at hca
      have HXE := Lib.hid hxe
      have hgab := World.block_lt_of_cell? w _ hca
      clear hxe
      go_wp2
      obtain ⟨wo, rfl⟩ : ∃ wo : World, wo = wr := ⟨wr, rfl⟩
      go_loopw [7, 8] (fun c j wi => ∃ (m z : Nat) (cur' : List Nat), j = .int .i64 m ∧ c = .int .i64 z ∧ At .i64 wi g 3 [] cur' [] ∧ RMul cur cur' k m z x ys ∧ (m ≤ ys.length ∨ z = 0) ∧ m ≤ ys.length + 1 ∧ Below w.heap.size w wi) (fun _ j _ => ys.length + 1 - (RowKit.intOf j).toNat)
      case atStart => exact ⟨0, 0, cur, rfl, rfl, fA, rmul_start hL k x ys, .inl (Nat.zero_le _), by omega, hB⟩
      case round =>
        clear fA hB
        obtain ⟨m, z, cur', rfl, rfl, fA, hM, hmz, hmb, hB⟩ := hrel
        have hzb : z < 10000 := hM.hc
        have hlc : cur'.length = xs.length + ys.length + 1 := by rw [hM.len, HLEN.out]
        by_cases hgo : m < ys.length ∨ 0 < z
        · have hml : m ≤ ys.length := by omega
          have hkm : k + m < cur'.length := by omega
          obtain ⟨d, hde, hdk⟩ := lim4 hM.lim (k + m) hkm
          have hcd := fA.cell (o := 0) rfl (k + m) hkm
          rw [Nat.zero_add, hde] at hcd
          have hfz := fA.frozen (k + m)
          have hkml : (k : Int) + (m : Int) < (xs.length : Int) + (ys.length : Int) + 1 := by omega
          have hcw : wr.cell? ⟨ga, oa + k, none⟩ = some (.int .i64 (x : Nat)) := (hB.cell hgab).trans hca
          by_cases hmt : m < ys.length
          · obtain ⟨gb, ob, rfl, hcb⟩ := (hrb.below hB) m hmt
            obtain ⟨y, hye, hyk⟩ := lim4 hy m hmt
            rw [hye] at hcb
            have hpb : x * y ≤ 9999 * 9999 := Nat.mul_le_mul (by omega) (by omega)
            obtain ⟨p, hp⟩ : ∃ p, x * y = p := ⟨_, rfl⟩
            have hpi : (x : Int) * (y : Int) = (p : Int) := by rw [← hp]; exact (Int.natCast_mul _ _).symm
            rw [hp] at hpb
            have hS := rmul_step hM hxk hy hkm (z + d + p) (by rw [getD_of hmt, hye, hde, hp])
            have hA1 := fA.set (o := 0) rfl (k + m) ((z + d + p) % 10000) hkm
            rw [Nat.zero_add] at hA1
            have HS := Lib.hid hS
            have hx1 : (k : Int) < (xs.length : Int) := by omega
            have hy1 : (m : Int) < (ys.length : Int) := by omega
            clear hye hde hp hS hM hlc hkm hmz hgo
            obtain ⟨S, hSe⟩ : ∃ S, z + d + p = S := ⟨_, rfl⟩
            rw [hSe] at HS hA1
            have hSi : (z : Int) + (d : Int) + (p : Int) = (S : Int) := by omega
            have hSb : S ≤ 100000000 := by omega
            have hw1 : IntKind.i64.wrap (p : Int) = (p : Int) := IntWalk.i64_in _ (by omega)
            have hw2 : IntKind.i64.wrap (S : Int) = (S : Int) := IntWalk.i64_in _ (by omega)
            have HA1 := Lib.hid hA1
            clear hA1 hSe
            go_wp2
            go_quiet (fail)
            clear hw1 hw2
            go_wp2
            clear hpi hSi
            go_roundw
            case rel => exact ⟨m + 1, S / 10000, _, by go_num, vint (by omega), HA1.out, HS.out, by omega, by omega, (below_drewN' hB _).setCell hgB _⟩
            case measure => simp [RowKit.intOf]; omega
          · have hzp : 0 < z := by omega
            have hS := rmul_step hM hxk hy hkm (z + d) (by rw [getD_no hmt, hde]; simp)
            have hA1 := fA.set (o := 0) rfl (k + m) ((z + d) % 10000) hkm
            rw [Nat.zero_add] at hA1
            have HS := Lib.hid hS
            have HA1 := Lib.hid hA1
            have hc2 : m + 1 ≤ ys.length ∨ (z + d) / 10000 = 0 := by
              rcases Nat.eq_zero_or_pos ((z + d) / 10000) with h | h
              · exact .inr h
              · have := rmul_carry hS HV.out hlt HXE.out hx hy (by omega) h
                omega
            clear hde hS hA1 hM hlc hkm hmz hgo
            go_wp2
            go_roundw
            case rel => exact ⟨m + 1, (z + d) / 10000, _, by go_num, vint (by omega), HA1.out, HS.out, hc2, by omega, hB.setCell hgB _⟩
            case measure => simp [RowKit.intOf]; omega
        · have hmy : ys.length ≤ m := by omega
          obtain rfl : z = 0 := by omega
          have hv2 : vl D4 cur' = vl D4 (xs.take (k + 1)) * vl D4 ys := by
            have e := hM.eq
            rw [vl_take_all hmy, Nat.mul_zero, Nat.add_zero, HV.out] at e
            rw [e, vl_take_succ D4 xs k hlt, HXE.out, Nat.add_mul, Nat.mul_assoc]
          have HV2 := Lib.hid hv2
          have HLC := Lib.hid hlc
          have hlim := hM.lim
          have hm1 : ¬ m < ys.length := by omega
          clear hv2 hlc hM hmz hgo
          go_wp2
          go_roundw
          case rel => exact ⟨k + 1, cur', hlt, by go_num, fA, HLC.out, hlim, HV2.out, hB⟩
          case measure => simp [RowKit.intOf]; omega
    · obtain rfl : k = xs.length := by omega
      have hO := own_of_at (B := w.heap.size) (cap := xs.length + ys.length + 1) fA hgB (by rw [HLEN.out]; rfl) (by unfold maxLen; omega)
      rw [HLEN.out] at hO
      have cT := rtrim_own _ _ cur wr hL (by rw [HLEN.out]; omega) hO
      have hv := HV.out
      rw [vl_take_all (Nat.le_refl _)] at hv
      rw [hv] at cT
      have CT := Lib.hid cT
      clear cT hO hv fA
      go_wp2_with fail
      refine CT.out.mono ?_
      rintro e w' ⟨⟨v', rfl, hO7⟩, rfl⟩
      have HO7 := Lib.hid hO7
      clear hO7 CT
      go_wp2
      go_ret
      exact ⟨_, rfl, HO7.out, hB⟩
end Go.Proofs.YtmceakbjholjpaaGreatDoor

namespace Go.Proofs.YtmceakbjholjpaaGreatDoor
open Go.RowKit Go.Lib

set_option maxRecDepth 100000 in
set_option maxHeartbeats 1000000 in
theorem rparts_yes (b : Nat) (w : World) (hb : b < 18446744073709551616) (h : mag b < 9218868437227405312) : Calls Tryz.prog 257 #[.float .f64 b] w fun e w' => e = .returned (.tuple #[.int .u64 (manF (mag b)), .int .i64 (expF (mag b)), .bool true]) ∧ w = w' := by
  have hr := run_f64bits b w
  have hm : (b : Int) % 9223372036854775808 = ((mag b : Nat) : Int) := by unfold mag; omega
  obtain ⟨m, hme⟩ : ∃ m, mag b = m := ⟨_, rfl⟩
  rw [hme] at h hm
  rw [hme]
  clear hme
  obtain ⟨y, hy⟩ : ∃ y, m / 4503599627370496 = y := ⟨_, rfl⟩
  have hy2 : y ≤ 2046 := by omega
  have hyd : (m : Int) / 4503599627370496 = (y : Int) := by omega
  have hyn : ((y : Int) == 2047) = false := by rw [beq_eq_false_iff_ne]; omega
  by_cases hs : m < 4503599627370496
  · have HM := Lib.hid (show ((manF m : Nat) : Int) = (m : Int) % 4503599627370496 by rw [manF, if_pos hs]; omega)
    have HE := Lib.hid (show expF m = -1074 by rw [expF, if_pos hs])
    have hy0 : ((y : Int) == 0) = true := by rw [beq_iff_eq]; omega
    clear hy hs
    go_enter Tryz.func257, Tryz.ntmps257
    go_wp2
    go_ret3
    exact ⟨by rw [HM.out, HE.out]; rfl, rfl⟩
  · have HM := Lib.hid (show ((manF m : Nat) : Int) = (m : Int) % 4503599627370496 + 4503599627370496 by rw [manF, if_neg hs]; omega)
    have HE := Lib.hid (show expF m = (y : Int) - 1075 by rw [expF, if_neg hs, hy]; omega)
    have hy0 : ((y : Int) == 0) = false := by rw [beq_eq_false_iff_ne]; omega
    clear hy hs
    go_enter Tryz.func257, Tryz.ntmps257
    go_wp2
    go_ret3
    exact ⟨by rw [HM.out, HE.out]; rfl, rfl⟩
theorem dlen_mul {a b k j : Nat} (ha : (dig D4 a).length ≤ k) (hb : (dig D4 b).length ≤ j) : (dig D4 (a * b)).length ≤ k + j := by
  rw [dig_len_le (by decide)] at ha hb ⊢
  rw [Nat.pow_add]
  exact Nat.mul_lt_mul'' ha hb
/-- The two sides that 'above' compares. -/
def abL (n : Nat) (x : Int) (r : Nat) : Nat := n * (10 ^ x.toNat * 2 ^ (-(expF r - 1)).toNat)
def abR (x : Int) (r : Nat) : Nat := (manF r * 2 + 1) * (10 ^ (-x).toNat * 2 ^ (expF r - 1).toNat)
set_option maxRecDepth 100000 in
set_option maxHeartbeats 4000000 in
theorem above_any (A : Option Addr) (ca n : Nat) (x : Int) (r : Nat) (w : World) (hx0 : -5000 ≤ x) (hx1 : x ≤ 5000) (hr : r < 9218868437227405312) (hnl : (dig D4 n).length ≤ 5000) (hra : Rd .i64 w A (dig D4 n)) :
    Calls Tryz.prog 235 #[.slice A (dig D4 n).length ca, .int .i64 x, .int .u64 r] w fun e w' => e = .returned (.int .i64 (cmpZ (abL n x r) (abR x r))) ∧ Below w.heap.size w w' := by
  have hmr : mag r = r := Nat.mod_eq_of_lt (by omega)
  have hf := fun W => run_f64from r W
  have c1 := fun W => rparts_yes r W (by omega) (by rw [hmr]; exact hr)
  rw [hmr] at c1
  have he := expF_bd hr
  have hml := manF_lt (r := r)
  unfold abL abR
  obtain ⟨m, hm⟩ : ∃ m, manF r = m := ⟨_, rfl⟩
  obtain ⟨E, hE⟩ : ∃ E, expF r = E := ⟨_, rfl⟩
  rw [hm, hE] at c1
  rw [hE] at he
  rw [hm] at hml
  rw [hm, hE]
  have k1 : max x 0 = ((x.toNat : Nat) : Int) := by omega
  have k2 : max (-(E - 1)) 0 = (((-(E - 1)).toNat : Nat) : Int) := by omega
  have k3 : max (-x) 0 = (((-x).toNat : Nat) : Int) := by omega
  have k4 : max (E - 1) 0 = (((E - 1).toNat : Nat) : Int) := by omega
  have b1 : x.toNat ≤ 5000 := by omega
  have b2 : (-(E - 1)).toNat ≤ 5000 := by omega
  have b3 : (-x).toNat ≤ 5000 := by omega
  have b4 : (E - 1).toNat ≤ 5000 := by omega
  generalize x.toNat = p10 at *
  generalize (-(E - 1)).toNat = q2 at *
  generalize (-x).toNat = q10 at *
  generalize (E - 1).toNat = p2 at *
  have cS := fun (W : World) => small_any m W (by omega)
  have cS2 := fun (W : World) => small_any 2 W (by omega)
  have cS1 := fun (W : World) => small_any 1 W (by omega)
  have l1 := dig4_powb (b := 10) (j := p10) (by omega) (by omega)
  have l2 := dig4_powb (b := 2) (j := q2) (by omega) (by omega)
  have l3 := dig4_powb (b := 10) (j := q10) (by omega) (by omega)
  have l4 := dig4_powb (b := 2) (j := p2) (by omega) (by omega)
  have ln : ∀ z, z < 10000000000000000000000000000000000000000 → (dig D4 z).length ≤ 16 := fun z hz => (dig_len_le (by decide) z 16).2 (Nat.lt_trans hz (by decide))
  have cM := fun (A1 A2 : Option Addr) (c1 c2 a b : Nat) (W : World) (h1 : (dig D4 a).length ≤ 30000) (h2 : (dig D4 b).length ≤ 30000) (hr1 : Rd .i64 W A1 (dig D4 a)) (hr2 : Rd .i64 W A2 (dig D4 b)) => rmul_any A1 A2 c1 c2 (dig D4 a) (dig D4 b) W (lim4p _) (lim4p _) (by omega) (by omega) hr1 hr2
  simp only [dig_vl (show 2 ≤ D4 by decide)] at cM
  have cA := fun (A1 A2 : Option Addr) (c1 c2 a b : Nat) (W : World) (h1 : (dig D4 a).length ≤ 30000) (h2 : (dig D4 b).length ≤ 30000) (hr1 : Rd .i64 W A1 (dig D4 a)) (hr2 : Rd .i64 W A2 (dig D4 b)) => radd_any A1 A2 c1 c2 (dig D4 a) (dig D4 b) W (lim4p _) (lim4p _) (by omega) (by omega) hr1 hr2
  simp only [dig_vl (show 2 ≤ D4 by decide)] at cA
  have cC := fun (A1 A2 : Option Addr) (c1 c2 a b : Nat) (W : World) (h1 : (dig D4 a).length ≤ 30000) (h2 : (dig D4 b).length ≤ 30000) (hr1 : Rd .i64 W A1 (dig D4 a)) (hr2 : Rd .i64 W A2 (dig D4 b)) => rcmp_any A1 A2 c1 c2 (dig D4 a) (dig D4 b) W (dig_norm (by decide) _) (dig_norm (by decide) _) (by omega) (by omega) hr1 hr2
  simp only [dig_vl (show 2 ≤ D4 by decide)] at cC
  have CP := Lib.hid c1
  have CS := Lib.hid cS
  have CS2 := Lib.hid cS2
  have CS1 := Lib.hid cS1
  have CM := Lib.hid cM
  have CA := Lib.hid cA
  have CC := Lib.hid cC
  have CPa := Lib.hid (fun W => rpow_b10 p10 W (by omega))
  have CPb := Lib.hid (fun W => rpow_b2 q2 W (by omega))
  have CPc := Lib.hid (fun W => rpow_b10 q10 W (by omega))
  have CPd := Lib.hid (fun W => rpow_b2 p2 W (by omega))
  have m1 : (dig D4 m).length ≤ 16 := ln _ (by omega)
  have m2 : (dig D4 (m * 2)).length ≤ 16 := ln _ (by omega)
  have m3 : (dig D4 (m * 2 + 1)).length ≤ 16 := ln _ (by omega)
  have m4 : (dig D4 2).length ≤ 16 := ln _ (by omega)
  have m5 : (dig D4 1).length ≤ 16 := ln _ (by omega)
  have m6 := dlen_mul l1 l2
  have m7 := dlen_mul l3 l4
  have m8 := dlen_mul hnl m6
  have m9 := dlen_mul m3 m7
  have HA := Lib.hid hra
  have hB := Below.refl w.heap.size w
  clear c1 cS cS2 cS1 cM cA cC hm hE hmr ln hra
  go_enter Tryz.func235, Tryz.ntmps235
  go_wp2_with fail
  refine (CP.out _).mono ?_
  rintro e w' ⟨rfl, rfl⟩
  go_wp2_with fail
  refine (CS.out _).mono ?_
  rintro e w1 ⟨v, rfl, o, nb⟩
  obtain ⟨A1, d1, rfl, _⟩ := o.slice_
  have HA := Lib.hid (HA.out.below nb)
  have Q1 : Hid (Rd .i64 w1 A1 (dig D4 m)) := o.rd
  have hB := hB.trans (nb.mono hB.size)
  clear o nb
  go_wp2_with fail
  refine (CS2.out _).mono ?_
  rintro e w2 ⟨v, rfl, o, nb⟩
  obtain ⟨A2, d2, rfl, _⟩ := o.slice_
  have HA := Lib.hid (HA.out.below nb)
  have Q1 := Lib.hid (Q1.out.below nb)
  have Q2 : Hid (Rd .i64 w2 A2 (dig D4 2)) := o.rd
  have hB := hB.trans (nb.mono hB.size)
  clear o nb
  go_wp2_with fail
  refine (CM.out A1 A2 d1 d2 m 2 _ (by omega) (by omega) Q1.out Q2.out).mono ?_
  rintro e w3 ⟨v, rfl, o, nb⟩
  obtain ⟨A3, d3, rfl, _⟩ := o.slice_
  have HA := Lib.hid (HA.out.below nb)
  have Q1 := Lib.hid (Q1.out.below nb)
  have Q2 := Lib.hid (Q2.out.below nb)
  have Q3 : Hid (Rd .i64 w3 A3 (dig D4 (m * 2))) := o.rd
  have hB := hB.trans (nb.mono hB.size)
  clear o nb
  clear Q1 Q2
  go_wp2_with fail
  refine (CS1.out _).mono ?_
  rintro e w4 ⟨v, rfl, o, nb⟩
  obtain ⟨A4, d4, rfl, _⟩ := o.slice_
  have HA := Lib.hid (HA.out.below nb)
  have Q3 := Lib.hid (Q3.out.below nb)
  have Q4 : Hid (Rd .i64 w4 A4 (dig D4 1)) := o.rd
  have hB := hB.trans (nb.mono hB.size)
  clear o nb
  go_wp2_with fail
  refine (CA.out A3 A4 d3 d4 (m * 2) 1 _ (by omega) (by omega) Q3.out Q4.out).mono ?_
  rintro e w5 ⟨v, rfl, o, nb⟩
  obtain ⟨A5, d5, rfl, _⟩ := o.slice_
  have HA := Lib.hid (HA.out.below nb)
  have Q3 := Lib.hid (Q3.out.below nb)
  have Q4 := Lib.hid (Q4.out.below nb)
  have Q5 : Hid (Rd .i64 w5 A5 (dig D4 (m * 2 + 1))) := o.rd
  have hB := hB.trans (nb.mono hB.size)
  clear o nb
  clear Q3 Q4
  go_wp2_with fail
  refine (CPa.out _).mono ?_
  rintro e w6 ⟨v, rfl, o, nb⟩
  obtain ⟨A6, d6, rfl, _⟩ := o.slice_
  have HA := Lib.hid (HA.out.below nb)
  have Q5 := Lib.hid (Q5.out.below nb)
  have Q6 : Hid (Rd .i64 w6 A6 (dig D4 (10 ^ p10))) := o.rd
  have hB := hB.trans (nb.mono hB.size)
  clear o nb
  go_wp2_with fail
  refine (CPb.out _).mono ?_
  rintro e w7 ⟨v, rfl, o, nb⟩
  obtain ⟨A7, d7, rfl, _⟩ := o.slice_
  have HA := Lib.hid (HA.out.below nb)
  have Q5 := Lib.hid (Q5.out.below nb)
  have Q6 := Lib.hid (Q6.out.below nb)
  have Q7 : Hid (Rd .i64 w7 A7 (dig D4 (2 ^ q2))) := o.rd
  have hB := hB.trans (nb.mono hB.size)
  clear o nb
  go_wp2_with fail
  refine (CM.out A6 A7 d6 d7 _ _ _ (by omega) (by omega) Q6.out Q7.out).mono ?_
  rintro e w8 ⟨v, rfl, o, nb⟩
  obtain ⟨A8, d8, rfl, _⟩ := o.slice_
  have HA := Lib.hid (HA.out.below nb)
  have Q5 := Lib.hid (Q5.out.below nb)
  have Q6 := Lib.hid (Q6.out.below nb)
  have Q7 := Lib.hid (Q7.out.below nb)
  have Q8 : Hid (Rd .i64 w8 A8 (dig D4 (10 ^ p10 * 2 ^ q2))) := o.rd
  have hB := hB.trans (nb.mono hB.size)
  clear o nb
  clear Q6 Q7
  go_wp2_with fail
  refine (CM.out A A8 ca d8 _ _ _ (by omega) (by omega) HA.out Q8.out).mono ?_
  rintro e w9 ⟨v, rfl, o, nb⟩
  obtain ⟨A9, d9, rfl, _⟩ := o.slice_
  have HA := Lib.hid (HA.out.below nb)
  have Q5 := Lib.hid (Q5.out.below nb)
  have Q8 := Lib.hid (Q8.out.below nb)
  have Q9 : Hid (Rd .i64 w9 A9 (dig D4 (n * (10 ^ p10 * 2 ^ q2)))) := o.rd
  have hB := hB.trans (nb.mono hB.size)
  clear o nb
  clear Q8
  go_wp2_with fail
  refine (CPc.out _).mono ?_
  rintro e w10 ⟨v, rfl, o, nb⟩
  obtain ⟨A10, d10, rfl, _⟩ := o.slice_
  have HA := Lib.hid (HA.out.below nb)
  have Q5 := Lib.hid (Q5.out.below nb)
  have Q9 := Lib.hid (Q9.out.below nb)
  have Q10 : Hid (Rd .i64 w10 A10 (dig D4 (10 ^ q10))) := o.rd
  have hB := hB.trans (nb.mono hB.size)
  clear o nb
  go_wp2_with fail
  refine (CPd.out _).mono ?_
  rintro e w11 ⟨v, rfl, o, nb⟩
  obtain ⟨A11, d11, rfl, _⟩ := o.slice_
  have HA := Lib.hid (HA.out.below nb)
  have Q5 := Lib.hid (Q5.out.below nb)
  have Q9 := Lib.hid (Q9.out.below nb)
  have Q10 := Lib.hid (Q10.out.below nb)
  have Q11 : Hid (Rd .i64 w11 A11 (dig D4 (2 ^ p2))) := o.rd
  have hB := hB.trans (nb.mono hB.size)
  clear o nb
  go_wp2_with fail
  refine (CM.out A10 A11 d10 d11 _ _ _ (by omega) (by omega) Q10.out Q11.out).mono ?_
  rintro e w12 ⟨v, rfl, o, nb⟩
  obtain ⟨A12, d12, rfl, _⟩ := o.slice_
  have HA := Lib.hid (HA.out.below nb)
  have Q5 := Lib.hid (Q5.out.below nb)
  have Q9 := Lib.hid (Q9.out.below nb)
  have Q10 := Lib.hid (Q10.out.below nb)
  have Q11 := Lib.hid (Q11.out.below nb)
  have Q12 : Hid (Rd .i64 w12 A12 (dig D4 (10 ^ q10 * 2 ^ p2))) := o.rd
  have hB := hB.trans (nb.mono hB.size)
  clear o nb
  clear Q10 Q11
  go_wp2_with fail
  refine (CM.out A5 A12 d5 d12 _ _ _ (by omega) (by omega) Q5.out Q12.out).mono ?_
  rintro e w13 ⟨v, rfl, o, nb⟩
  obtain ⟨A13, d13, rfl, _⟩ := o.slice_
  have HA := Lib.hid (HA.out.below nb)
  have Q5 := Lib.hid (Q5.out.below nb)
  have Q9 := Lib.hid (Q9.out.below nb)
  have Q12 := Lib.hid (Q12.out.below nb)
  have Q13 : Hid (Rd .i64 w13 A13 (dig D4 ((m * 2 + 1) * (10 ^ q10 * 2 ^ p2)))) := o.rd
  have hB := hB.trans (nb.mono hB.size)
  clear o nb
  go_wp2_with fail
  refine (CC.out A9 A13 d9 d13 _ _ _ (by omega) (by omega) Q9.out Q13.out).mono ?_
  rintro e w14 ⟨rfl, nd, hm⟩
  have hB : Below w.heap.size w w14 := by rw [hm]; exact below_drewN' hB nd
  clear hm
  go_wp2
  go_ret
  exact ⟨rfl, hB⟩
end Go.Proofs.YtmceakbjholjpaaGreatDoor

namespace Go.Proofs.YtmceakbjholjpaaGreatDoor
open Go.RowKit Go.Lib

/-- The definition's Parse: pieces of four digits from the end. -/
structure RPar (l : List UInt8) (ds : List Nat) (m : Nat) : Prop where
  lim : Lim D4 ds
  eq : vl D4 ds = pv (l.drop m)
  pow : 0 < m → 10 ^ (l.length - m) = D4 ^ ds.length
theorem rpar_start (l : List UInt8) : RPar l [] l.length := ⟨lim_nil _, by rw [List.drop_length]; rfl, fun _ => by simp⟩
theorem pv_lt4 {l : List UInt8} (h : Dec l) (hl : l.length ≤ 4) : pv l < 10000 := by
  have h1 := pv_lt h
  have h2 : 10 ^ l.length ≤ 10 ^ 4 := Nat.pow_le_pow_right (by omega) hl
  exact Nat.lt_of_lt_of_le h1 h2
theorem drop_split {l : List UInt8} {m m' : Nat} (h : m' ≤ m) : l.drop m' = (l.drop m').take (m - m') ++ l.drop m := by
  have := (List.take_append_drop (m - m') (l.drop m')).symm
  rwa [List.drop_drop, show m' + (m - m') = m by omega] at this
theorem rpar_step {l : List UInt8} {ds : List Nat} {m m' : Nat} (h : RPar l ds m) (hd : Dec l) (hm0 : 0 < m) (hm : m ≤ l.length) (he : m' = m - 4) : RPar l (ds ++ [pv ((l.drop m').take (m - m'))]) m' := by
  have hp := h.pow hm0
  refine ⟨lim_append.2 ⟨h.lim, lim_one.2 (pv_lt4 (dec_take (dec_drop hd _) _) (by rw [List.length_take]; omega))⟩, ?_, ?_⟩
  · rw [vl_snoc, h.eq, ← hp, drop_split (show m' ≤ m by omega), pv_append, List.length_drop, Nat.mul_comm]
    have e : (((l.drop m').take (m - m') ++ l.drop m).take (m - m')) = (l.drop m').take (m - m') := by
      rw [List.take_append_of_le_length (by rw [List.length_take, List.length_drop]; omega), List.take_take, Nat.min_self]
    rw [e]
    omega
  · intro h0
    rw [List.length_append, List.length_singleton, Nat.pow_succ, ← hp, show l.length - m' = (l.length - m) + 4 by omega, Nat.pow_add]
theorem rpar_end {l : List UInt8} {ds : List Nat} (h : RPar l ds 0) : vl D4 ds = pv l := by
  have := h.eq
  rwa [List.drop_zero] at this

theorem Own.more {κ : IntKind} {w : World} {B : Nat} {t : TypeId} {v : Value} {xs ys : List Nat} {k m : Nat} {cs : List Value} (h : w.ownsRow B t 1 v (k + m) (nums κ xs ++ cs)) (hc : cs = nums κ ys) (hk : k = xs.length) (hm : m = ys.length) : Own κ w B t v (xs ++ ys) := by
  subst hc
  exact Own.append h hk hm
end Go.Proofs.YtmceakbjholjpaaGreatDoor

namespace Go.Proofs.YtmceakbjholjpaaGreatDoor
open Go.RowKit Go.Lib

/-- What the definition's Parse answers. -/
noncomputable def rparRes (s : ByteArray) : List Nat := if isDec s = true then dig D4 (pv s.data.toList) else []
/-- How it ends. -/
def RParEnd (f : Bool) (zs : List Nat) (w : World) (e : Ending) (w' : World) : Prop := ∃ v, e = .returned (.tuple #[v, .bool f]) ∧ Own .i64 w' w.heap.size 3 v zs ∧ Below w.heap.size w w'
theorem pv_take_more {l : List UInt8} {m' j : Nat} (hj : j < l.length) (h : m' ≤ j) : pv ((l.drop m').take (j + 1 - m')) = pv ((l.drop m').take (j - m')) * 10 + ((l[j]).toNat - 48) := by
  have h1 : j - m' < (l.drop m').length := by rw [List.length_drop]; omega
  rw [show j + 1 - m' = (j - m') + 1 by omega, List.take_succ_eq_append_getElem h1, pv_snoc]
  have h2 : (l.drop m')[j - m'] = l[j] := by
    rw [List.getElem_drop]
    congr 1
    omega
  rw [h2]

set_option maxRecDepth 100000 in
set_option maxHeartbeats 4000000 in
theorem rparse_any (s : ByteArray) (w : World) (hs : s.size ≤ 4194304) :
    Calls Tryz.prog 234 #[.string s] w (RParEnd (isDec s) (rparRes s) w) := by
  by_cases h0 : s.size = 0
  · have HR := Lib.hid (show isDec s = false from isDec_no.2 (fun h => by omega))
    have he : s.toList = [] := by rw [Lib.toList_data]; exact ba_nil h0
    have he2 : s.toList.isEmpty = true := by rw [he]; rfl
    clear h0
    go_enter Tryz.func234, Tryz.ntmps234
    go_wp2
    go_ret2
    exact ⟨_, by rw [HR.out]; rfl, by rw [rparRes, if_neg (by rw [HR.out]; decide)]; exact Own.nil _ _ _, Below.refl _ _⟩
  obtain ⟨i0, hi, hz0, hz1, hz2⟩ := info_parts info_i64
  have he2 : s.toList.isEmpty = false := by
    rw [Lib.toList_data]
    cases h : s.data.toList with
    | nil => exact absurd (by rw [← ba_len, h]; rfl) h0
    | cons _ _ => rfl
  have he3 : ¬ s.toList = [] := by
    intro e; rw [e] at he2; cases he2
  have hpos : 0 < s.size := by omega
  clear h0
  go_enter Tryz.func234, Tryz.ntmps234
  go_wp2
  go_loop [4] (fun i => ∃ k : Nat, k ≤ s.size ∧ i = .int .i64 k ∧ Dec (s.data.toList.take k)) (fun i => s.size - (RowKit.intOf i).toNat)
  case atStart => exact ⟨0, Nat.zero_le _, rfl, fun _ h => by simp at h⟩
  case round =>
    obtain ⟨k, hk, rfl, hd⟩ := hrel
    by_cases hlt : k < s.size
    · by_cases h1 : s[k].toNat < 48
      · have HR := Lib.hid (show isDec s = false from isDec_no.2 (fun h => by have := (dec_at h.2 k hlt).1; omega))
        clear hd
        go_wp2
        go_ret2
        exact ⟨_, by rw [HR.out]; rfl, by rw [rparRes, if_neg (by rw [HR.out]; decide)]; exact Own.nil _ _ _, Below.refl _ _⟩
      · by_cases h2 : 57 < s[k].toNat
        · have HR := Lib.hid (show isDec s = false from isDec_no.2 (fun h => by have := (dec_at h.2 k hlt).2; omega))
          clear hd
          go_wp2
          go_ret2
          exact ⟨_, by rw [HR.out]; rfl, by rw [rparRes, if_neg (by rw [HR.out]; decide)]; exact Own.nil _ _ _, Below.refl _ _⟩
        · have hd2 := dec_snoc hd (show 48 ≤ s[k].toNat ∧ s[k].toNat ≤ 57 by omega)
          rw [← ba_take_snoc s k hlt] at hd2
          have HD := Lib.hid hd2
          clear hd hd2
          go_wp2
          go_round
          case rel => exact ⟨k + 1, hlt, by go_num, HD.out⟩
          case measure => simp [RowKit.intOf]; omega
    · obtain rfl : k = s.size := by omega
      rw [← ba_len, List.take_length] at hd
      have HR := Lib.hid (isDec_iff.2 ⟨hpos, hd⟩)
      have HDEC := Lib.hid hd
      clear hd he2 he3 hlt hk
      go_wp2
      go_loopw [5, 6] (fun v q wr => ∃ (m : Nat) (E : Int) (ds : List Nat), q = .int .i64 E ∧ ((0 < m ∧ E = m) ∨ (m = 0 ∧ -4 < E ∧ E ≤ 0)) ∧ m ≤ s.size ∧ ds.length ≤ s.size - m ∧ Own .i64 wr w.heap.size 3 v ds ∧ RPar s.data.toList ds m ∧ Below w.heap.size w wr) (fun _ q _ => (RowKit.intOf q).toNat)
      case atStart => exact ⟨s.size, _, [], rfl, .inl ⟨hpos, rfl⟩, Nat.le_refl _, Nat.zero_le _, Own.nil _ _ _, by have := rpar_start s.data.toList; rwa [ba_len] at this, Below.refl _ _⟩
      case round =>
        obtain ⟨m, E, ds, rfl, hE, hms, hdl, hO, hP, hB⟩ := hrel
        obtain ⟨A5, c5, rfl, _⟩ := hO.slice
        by_cases hm : 0 < m
        · obtain rfl : E = (m : Int) := by omega
          obtain ⟨m', hm'⟩ : ∃ m', m - 4 = m' := ⟨_, rfl⟩
          have hmx : max ((m : Int) - 4) 0 = (m' : Int) := by omega
          have hmi2 : (if (m : Int) - 4 < 0 then (0 : Int) else (m : Int) - 4) = (m' : Int) := by split <;> omega
          have hmi3 : (if (0 : Int) ≤ (m : Int) - 4 then (m : Int) - 4 else (0 : Int)) = (m' : Int) := by split <;> omega
          have hm4 : m' ≤ m := by omega
          have hm5 : m ≤ m' + 4 := by omega
          have HST := Lib.hid (rpar_step hP HDEC.out hm (by rw [ba_len]; exact hms) hm'.symm)
          have HM := Lib.hid hm'
          have hown := hO.row (n := ds.length) rfl
          have HOWN := Lib.hid hown
          have hsz := hB.size
          clear hP hO hE hm' hown
          go_wp2
          clear hmx hmi2 hmi3
          obtain ⟨wo, rfl⟩ : ∃ wo : World, wo = wr := ⟨wr, rfl⟩
          go_loop [7, 8] (fun a i => ∃ j : Nat, m' ≤ j ∧ j ≤ m ∧ i = .int .i64 j ∧ a = .int .i64 (pv ((s.data.toList.drop m').take (j - m')) : Nat)) (fun _ i => m - (RowKit.intOf i).toNat)
          case atStart => exact ⟨m', Nat.le_refl _, hm4, rfl, by rw [Nat.sub_self]; rfl⟩
          case round =>
            obtain ⟨j, hj1, hj2, rfl, rfl⟩ := hrel
            have hvl := pv_lt4 (dec_take (dec_drop HDEC.out m') (j - m')) (by rw [List.length_take]; omega)
            by_cases hjm : j < m
            · have hjs : j < s.size := by omega
              obtain ⟨c1, c2⟩ := dec_at HDEC.out j hjs
              have hmore := pv_take_more (l := s.data.toList) (by rw [ba_len]; exact hjs) hj1
              have hsj : s.data.toList[j]'(by rw [ba_len]; exact hjs) = s[j] := rfl
              rw [hsj] at hmore
              obtain ⟨V, hV⟩ : ∃ V, pv ((s.data.toList.drop m').take (j - m')) = V := ⟨_, rfl⟩
              rw [hV] at hvl hmore
              rw [hV]
              have HMORE := Lib.hid hmore
              clear hmore hV hsj
              go_wp2
              go_round
              case rel => exact ⟨j + 1, by omega, hjm, by go_num, by rw [HMORE.out]; exact vint (by omega)⟩
              case measure => simp [RowKit.intOf]; omega
            · obtain rfl : j = m := by omega
              obtain ⟨V, hV⟩ : ∃ V, pv ((s.data.toList.drop m').take (j - m')) = V := ⟨_, rfl⟩
              have hst := HST.out
              rw [hV] at hst hvl
              rw [hV]
              have HST2 := Lib.hid hst
              have hown := HOWN.out
              have hmm := HM.out
              have hmn : m' ≤ j - 1 := by omega
              have hE2 : ((0 < m' ∧ (j : Int) - 4 = m') ∨ (m' = 0 ∧ -4 < (j : Int) - 4 ∧ (j : Int) - 4 ≤ 0)) := by omega
              have HE2 := Lib.hid hE2
              clear hst hV hmm hE2 HST HOWN hj1 hj2 hjm
              go_wp2_with (at_builtin; refine wpList_append_own _ rfl _ _ 269 rfl w.heap.size 3 i0 (.int .i64 0) 1 8 Tryz.underlying269 hi hz0 hz1 hz2 rfl (by decide) _ _ _ rfl (hown.alloc _) ⟨wo.heap.size, 0, none⟩ 1 1 [.int .i64 (V : Nat)] rfl rfl (cell_one_new _ _ _) ?c2 ?c3 ?c4 ?c5 ?_)
              case c2 => simp [Value.oneCell']
              case c3 => unfold maxLen; omega
              case c4 => omega
              case c5 => first | omega | (simp; omega)
              intro v' w4 hown' hgrow _
              have hB4 : Below w.heap.size w w4 := (hB.alloc hsz _).grown hgrow (by simp; omega) (fun z e => (hown.lt z e).1)
              have HO1 := Lib.hid (Own.snoc hown' rfl)
              clear hown hown' hgrow
              go_wp2
              go_roundw
              case rel => exact ⟨m', _, _, rfl, HE2.out, by omega, by rw [List.length_append, List.length_singleton]; omega, HO1.out, HST2.out, hB4⟩
              case measure => simp [RowKit.intOf]; omega
        · obtain rfl : m = 0 := by omega
          have hE0 : E ≤ 0 := by omega
          have he := rpar_end hP
          have cT := rtrim_own _ _ ds wr hP.lim (by omega) hO
          rw [he] at cT
          have CT := Lib.hid cT
          clear cT hO hP he hE
          go_wp2_with fail
          refine CT.out.mono ?_
          rintro e w' ⟨⟨v', rfl, hO7⟩, rfl⟩
          have HO7 := Lib.hid hO7
          clear hO7 CT
          go_wp2
          go_ret2
          exact ⟨_, by rw [HR.out]; rfl, by rw [rparRes, if_pos HR.out]; exact HO7.out, hB⟩
end Go.Proofs.YtmceakbjholjpaaGreatDoor

namespace Go.Proofs.YtmceakbjholjpaaGreatDoor
open Go.RowKit Go.Lib

theorem cmpZ_scale {a b k : Nat} (hk : 0 < k) : cmpZ (a * k) (b * k) = cmpZ a b := by
  rcases Nat.lt_trichotomy a b with h | h | h
  · rw [cmpZ_lt h, cmpZ_lt (Nat.mul_lt_mul_of_pos_right h hk)]
  · subst h; rw [cmpZ_eq rfl, cmpZ_eq rfl]
  · rw [cmpZ_gt h, cmpZ_gt (Nat.mul_lt_mul_of_pos_right h hk)]
/-- The middle behind the float of rung q, times D. -/
def mid2 (D q : Nat) : Nat := (V q + V (q + 1)) * D
theorem mid2_lt {D q q' : Nat} (hD : 0 < D) (h : q < q') : mid2 D q < mid2 D q' := by
  unfold mid2
  refine Nat.mul_lt_mul_of_pos_right ?_ hD
  have h1 := V_lt h
  have h2 := V_lt (show q + 1 < q' + 1 by omega)
  omega
/-- What 'above' compares. -/
theorem above_mid (n r : Nat) (x : Int) (hr : r < 9218868437227405312) : cmpZ (abL n x r) (abR x r) = cmpZ (2 * (n * 10 ^ x.toNat) * S1074) (mid2 (10 ^ (-x).toNat) r) := by
  obtain ⟨c, hc⟩ : ∃ c : Nat, c = 1074 := ⟨_, rfl⟩
  have he := expF_bd hr
  obtain ⟨t, ht⟩ : ∃ t : Nat, t = 1075 - (-(expF r - 1)).toNat := ⟨_, rfl⟩
  rw [← cmpZ_scale (k := 2 ^ t) (Nat.pow_pos (by omega))]
  have e1 : abL n x r * 2 ^ t = 2 * (n * 10 ^ x.toNat) * S1074 := by
    rw [S_eq c hc]
    have e : 2 ^ (-(expF r - 1)).toNat * 2 ^ t = 2 * 2 ^ c := by
      rw [← Nat.pow_add, ← Nat.pow_succ', show (-(expF r - 1)).toNat + t = c.succ by omega]
    unfold abL
    calc n * (10 ^ x.toNat * 2 ^ (-(expF r - 1)).toNat) * 2 ^ t = n * 10 ^ x.toNat * (2 ^ (-(expF r - 1)).toNat * 2 ^ t) := by ac_rfl
      _ = n * 10 ^ x.toNat * (2 * 2 ^ c) := by rw [e]
      _ = 2 * (n * 10 ^ x.toNat) * 2 ^ c := by ac_rfl
  have e2 : abR x r * 2 ^ t = mid2 (10 ^ (-x).toNat) r := by
    unfold mid2
    rw [V_succ]
    have hU : U r = 2 ^ (expF r - -1074).toNat := by
      unfold U expF
      split
      · rw [show r / 4503599627370496 - 1 = 0 by omega, show ((-1074 : Int) - -1074).toNat = 0 by omega]
      · congr 1
        omega
    have hV : V r = manF r * U r := by rw [← val_V, Nat.shiftLeft_eq, hU]
    have e : 2 ^ (expF r - 1).toNat * 2 ^ t = U r := by
      rw [hU, ← Nat.pow_add]
      congr 1
      omega
    unfold abR
    rw [hV]
    generalize U r = u at *
    generalize manF r = m at *
    generalize 10 ^ (-x).toNat = D at *
    generalize 2 ^ (expF r - 1).toNat = z at *
    generalize 2 ^ t = y at *
    calc (m * 2 + 1) * (D * z) * y = (m * 2 + 1) * (z * y) * D := by ac_rfl
      _ = (m * 2 + 1) * u * D := by rw [e]
      _ = (m * u + (m * u + u)) * D := by
        congr 1
        rw [Nat.add_mul, Nat.mul_right_comm, Nat.one_mul]
        omega
  rw [e1, e2]
/-- Beyond the powers that the definition looks at. -/
theorem near_far_low {n c t : Nat} (hc : 1349 ≤ c) (ht : t = 1024) (hn : n < 10 ^ t) : Near (2 * n * S1074) (10 ^ c) 0 := by
  refine ⟨fun q e => absurd e (by omega), fun q e => absurd e (by omega), fun _ => ?_, fun _ _ => rfl, by omega⟩
  obtain ⟨f, hf⟩ : ∃ f : Nat, f = 1074 := ⟨_, rfl⟩
  rw [S_eq f hf, show V 0 + V (0 + 1) = 1 by decide, Nat.one_mul]
  have h4 := big325 325 (f + 1) rfl (by omega)
  have h5 : 10 ^ (t + 325) ≤ 10 ^ c := Nat.pow_le_pow_right (by omega) (by omega)
  refine Nat.le_trans ?_ h5
  rw [Nat.pow_add]
  have h7 : 2 * n * 2 ^ f ≤ 2 * 10 ^ t * 2 ^ f := Nat.mul_le_mul_right _ (by omega)
  have h9 : 2 * 10 ^ t * 2 ^ f = 10 ^ t * 2 ^ (f + 1) := by rw [Nat.pow_succ, Nat.mul_comm 2, Nat.mul_assoc, Nat.mul_comm 2]
  exact Nat.le_trans h7 (by rw [h9]; exact Nat.mul_le_mul_left _ h4)
theorem near_far_top {n c : Nat} (hn : 0 < n) (hc : 310 ≤ c) : Near (2 * (n * 10 ^ c) * S1074) 1 9218868437227405312 := by
  refine ⟨fun q hq => ?_, fun _ _ _ => rfl, fun h => absurd h (by omega), fun h => absurd h (by omega), Nat.le_refl _⟩
  obtain ⟨f, hf⟩ : ∃ f : Nat, f = 1074 := ⟨_, rfl⟩
  obtain ⟨d, hd⟩ : ∃ d : Nat, d = 1025 := ⟨_, rfl⟩
  obtain ⟨c0, hc0⟩ : ∃ c0 : Nat, c0 = 310 := ⟨_, rfl⟩
  have h4 := big310 c0 d hc0 hd
  have h5 := V_inf (d - 51 + f - 2) (by omega)
  have h6 : 4503599627370496 * 2 ^ (d - 51 + f - 2) = 2 ^ (d - 1) * 2 ^ f := by
    rw [show (4503599627370496 : Nat) = 2 ^ 52 by decide, ← Nat.pow_add, ← Nat.pow_add, show 52 + (d - 51 + f - 2) = d - 1 + f by omega]
  have h7 : 2 ^ d = 2 * 2 ^ (d - 1) := by rw [← Nat.pow_succ', show (d - 1).succ = d by omega]
  have h9 : 10 ^ c0 ≤ 10 ^ c := Nat.pow_le_pow_right (by omega) (by omega)
  have h8 : 2 * (1 * 2 ^ (d - 1)) * 2 ^ f ≤ 2 * (n * 10 ^ c) * 2 ^ f := Nat.mul_le_mul_right _ (Nat.mul_le_mul_left _ (Nat.mul_le_mul hn (by omega)))
  rw [Nat.one_mul, Nat.mul_assoc] at h8
  have h2 := V_lt (show q < 9218868437227405312 by omega)
  rw [S_eq f hf, Nat.mul_one]
  rw [h5, h6] at h2 ⊢
  generalize 2 ^ (d - 1) * 2 ^ f = z at *
  omega
def RRead (w : World) (X D : Nat) (e : Ending) (w' : World) : Prop := ∃ r, e = .returned (.tuple #[.float .f64 r, .int .i64 0]) ∧ Hid (Near X D r) ∧ Below w.heap.size w w'
set_option maxRecDepth 100000 in
set_option maxHeartbeats 2000000 in
theorem rread_far (s : ByteArray) (x : Int) (w : World) (hs : s.size ≤ 1024) (hd : isDec s = true) (hx : pv s.data.toList = 0 ∨ x < -1500 ∨ 400 < x) :
    Calls Tryz.prog 201 #[.string s, .int .i64 x] w (RRead w (2 * (pv s.data.toList * 10 ^ x.toNat) * S1074) (10 ^ (-x).toNat)) := by
  have cP := rparse_any s w (by omega)
  have hn := pv_lt (isDec_iff.1 hd).2
  rw [ba_len] at hn
  rw [rparRes, hd, if_pos rfl] at cP
  obtain ⟨n, hne⟩ : ∃ n, pv s.data.toList = n := ⟨_, rfl⟩
  rw [hne] at cP hn hx
  rw [hne]
  have CP := Lib.hid cP
  have hfi : ∀ W : World, (callFunc 18 #[.int .u64 9218868437227405312]).run Tryz.prog W = .ok (.value (.float .f64 9218868437227405312)) W := fun W => run_f64from 9218868437227405312 W
  by_cases h0 : n = 0
  · subst h0
    have hl : (((dig D4 0).length : Nat) : Int) = 0 := rfl
    clear cP hd hne hx
    go_enter Tryz.func201, Tryz.ntmps201
    go_wp2_with fail
    refine CP.out.mono ?_
    rintro e w1 ⟨v, rfl, o, nb⟩
    obtain ⟨A1, d1, rfl, _⟩ := o.slice_
    clear o
    go_wp2
    go_ret2
    refine ⟨0, rfl, Lib.hid ?_, nb⟩
    rw [Nat.zero_mul, Nat.mul_zero, Nat.zero_mul]
    exact near_zero (Nat.pow_pos (by omega))
  · have hlb : (((dig D4 n).length : Int) == 0) = false := by
      rw [beq_eq_false_iff_ne]
      intro e
      exact h0 (dig_nil (B := D4) (by decide) (List.eq_nil_of_length_eq_zero (by omega)))
    have HN := Lib.hid hn
    by_cases h1 : x < -1500
    · clear cP hd hne hx hn h0
      go_enter Tryz.func201, Tryz.ntmps201
      go_wp2_with fail
      refine CP.out.mono ?_
      rintro e w1 ⟨v, rfl, o, nb⟩
      obtain ⟨A1, d1, rfl, _⟩ := o.slice_
      clear o
      go_wp2
      go_ret2
      refine ⟨0, rfl, Lib.hid ?_, nb⟩
      rw [show x.toNat = 0 by omega, Nat.pow_zero, Nat.mul_one]
      obtain ⟨t, ht⟩ : ∃ t : Nat, t = 1024 := ⟨_, rfl⟩
      exact near_far_low (t := t) (by omega) ht (Nat.lt_of_lt_of_le HN.out (Nat.pow_le_pow_right (by omega) (by omega)))
    · have h2 : 400 < x := by omega
      have H0 := Lib.hid h0
      clear cP hd hne hx hn h0
      go_enter Tryz.func201, Tryz.ntmps201
      go_wp2_with fail
      refine CP.out.mono ?_
      rintro e w1 ⟨v, rfl, o, nb⟩
      obtain ⟨A1, d1, rfl, _⟩ := o.slice_
      clear o
      go_wp2
      go_ret2
      refine ⟨9218868437227405312, rfl, Lib.hid ?_, nb⟩
      rw [show (-x).toNat = 0 by omega, Nat.pow_zero]
      exact near_far_top (by have := H0.out; omega) (by omega)
end Go.Proofs.YtmceakbjholjpaaGreatDoor

namespace Go.Proofs.YtmceakbjholjpaaGreatDoor
open Go.RowKit Go.Lib

theorem near_first {X D r : Nat} (hr : r ≤ 9218868437227405312) (hlo : ∀ q, r = q + 1 → mid2 D q < X) (hhi : r < 9218868437227405312 → X ≤ mid2 D r) (hev : r < 9218868437227405312 → X = mid2 D r → r % 2 = 0) : Near X D r :=
  ⟨fun q hq => by subst hq; exact Nat.le_of_lt (hlo q rfl), fun q hq he => by subst hq; exact absurd he (Nat.ne_of_lt (hlo q rfl)), hhi, hev, hr⟩
theorem near_second {X D r : Nat} (hD : 0 < D) (hr : r < 9218868437227405312) (ho : r % 2 = 1) (he : X = mid2 D r) : Near X D (r + 1) := by
  have hm := mid2_lt hD (show r < r + 1 by omega)
  refine ⟨fun q hq => ?_, fun q hq _ => by omega, fun _ => by rw [he]; exact Nat.le_of_lt hm, fun _ h => absurd h (by rw [he]; exact Nat.ne_of_lt hm), by omega⟩
  obtain rfl : q = r := by omega
  rw [he]
  exact Nat.le_refl _
set_option maxRecDepth 100000 in
set_option maxHeartbeats 4000000 in
theorem rread_mid (s : ByteArray) (x : Int) (n X D : Nat) (w : World) (hs : s.size ≤ 1024) (hd : isDec s = true) (hn : pv s.data.toList = n) (h0 : n ≠ 0) (hx0 : -1500 ≤ x) (hx1 : x ≤ 400)
    (hX : 2 * (n * 10 ^ x.toNat) * S1074 = X) (hD : 10 ^ (-x).toNat = D) :
    Calls Tryz.prog 201 #[.string s, .int .i64 x] w (RRead w X D) := by
  have cP := rparse_any s w (by omega)
  have hnb := pv_lt (isDec_iff.1 hd).2
  rw [ba_len, hn] at hnb
  rw [rparRes, hd, if_pos rfl, hn] at cP
  have hl : (dig D4 n).length ≤ 1030 := by
    obtain ⟨c, hc⟩ : ∃ c : Nat, c = 1030 := ⟨_, rfl⟩
    rw [← hc]
    exact (dig_len_le (by decide) n c).2 (Nat.lt_of_lt_of_le hnb (Nat.le_trans (Nat.pow_le_pow_right (n := 10) (by omega) (show s.size ≤ c by omega)) (Nat.pow_le_pow_left (by decide) _)))
  have hlb : (((dig D4 n).length : Int) == 0) = false := by
    rw [beq_eq_false_iff_ne]
    intro e
    exact h0 (dig_nil (B := D4) (by decide) (List.eq_nil_of_length_eq_zero (by omega)))
  have hDp : 0 < D := by rw [← hD]; exact Nat.pow_pos (by omega)
  have cA := fun (A : Option Addr) (ca r : Nat) (W : World) (hr : r < 9218868437227405312) (hra : Rd .i64 W A (dig D4 n)) => above_any A ca n x r W (by omega) (by omega) hr (by omega) hra
  have hmid := fun (r : Nat) (hr : r < 9218868437227405312) => above_mid n r x hr
  rw [hX, hD] at hmid
  have cU : ∀ (A : Option Addr) (ca r : Nat) (W : World), r < 9218868437227405312 → Rd .i64 W A (dig D4 n) → Calls Tryz.prog 235 #[.slice A (dig D4 n).length ca, .int .i64 x, .int .u64 r] W fun e w' => e = .returned (.int .i64 (cmpZ X (mid2 D r))) ∧ Below W.heap.size W w' := fun A ca r W hr hra => by
    rw [← hmid r hr]; exact cA A ca r W hr hra
  have CP := Lib.hid cP
  have CU := Lib.hid cU
  have HD := Lib.hid hDp
  have hx2 : ¬ x < -1500 := by omega
  have hx3 : ¬ 400 < x := by omega
  have hfr := fun (r : Nat) (W : World) => run_f64from r W
  have HFR := Lib.hid hfr
  clear cP cA cU hmid hX hD hDp hn h0 hnb hd hfr
  go_enter Tryz.func201, Tryz.ntmps201
  go_wp2_with fail
  refine CP.out.mono ?_
  rintro e w1 ⟨v, rfl, o, nb⟩
  obtain ⟨A1, d1, rfl, _⟩ := o.slice_
  have HQ := Lib.hid o.rd
  have HB := Lib.hid nb
  have hw1 := nb.size
  clear o nb
  go_wp2_with fail
  go_loopw [8, 9] (fun lv hv wr => ∃ lo hi : Nat, lv = .int .u64 (lo : Int) ∧ hv = .int .u64 (hi : Int) ∧ lo ≤ hi ∧ hi ≤ 9218868437227405312 ∧ (∀ q, lo = q + 1 → mid2 D q < X) ∧ (hi < 9218868437227405312 → X ≤ mid2 D hi) ∧ Below w1.heap.size w1 wr) (fun lv hv _ => (RowKit.intOf hv - RowKit.intOf lv).toNat)
  case atStart => exact ⟨0, 9218868437227405312, rfl, rfl, by omega, by omega, fun q e => absurd e (by omega), fun h => absurd h (by omega), Below.refl _ _⟩
  case round =>
    obtain ⟨lo, hi, rfl, rfl, hlh, hhi, hlo, hup, hb⟩ := hrel
    have HLO := Lib.hid hlo
    have HUP := Lib.hid hup
    clear hlo hup
    by_cases hlt : lo < hi
    · obtain ⟨m, hm⟩ : ∃ m, (lo + hi) / 2 = m := ⟨_, rfl⟩
      have hmi : ((lo : Int) + (hi : Int)) / 2 = (m : Int) := by omega
      have hm1 : lo ≤ m := by omega
      have hm2 : m < hi := by omega
      clear hm
      rcases Nat.lt_or_ge (mid2 D m) X with hc | hc
      · have cz := CU.out A1 d1 m wr (by omega) (HQ.out.below hb)
        rw [cmpZ_gt hc] at cz
        have CZ := Lib.hid cz
        have HC := Lib.hid hc
        clear cz hc
        go_wp2_with fail
        refine CZ.out.mono ?_
        rintro e w2 ⟨rfl, nb⟩
        have hb2 := hb.trans (nb.mono hb.size)
        clear nb
        go_wp2_with fail
        go_roundw
        case rel => exact ⟨m + 1, hi, by go_num, rfl, by omega, hhi, fun q e => by
          obtain rfl : q = m := by omega
          exact HC.out, HUP.out, hb2⟩
        case measure => simp [RowKit.intOf]; omega
      · have cz := CU.out A1 d1 m wr (by omega) (HQ.out.below hb)
        have hz : cmpZ X (mid2 D m) ≤ 0 := by
          unfold cmpZ
          split
          · omega
          · split <;> omega
        obtain ⟨z, hze⟩ : ∃ z, cmpZ X (mid2 D m) = z := ⟨_, rfl⟩
        rw [hze] at cz hz
        have hzn : ¬ 0 < z := by omega
        have CZ := Lib.hid cz
        have HC := Lib.hid hc
        clear cz hc hze
        go_wp2_with fail
        refine CZ.out.mono ?_
        rintro e w2 ⟨rfl, nb⟩
        have hb2 := hb.trans (nb.mono hb.size)
        clear nb
        go_wp2_with fail
        go_roundw
        case rel => exact ⟨lo, m, rfl, rfl, by omega, by omega, HLO.out, fun _ => HC.out, hb2⟩
        case measure => simp [RowKit.intOf]; omega
    · obtain rfl : lo = hi := by omega
      have hB := HB.out.trans (hb.mono hw1)
      have hf1 := HFR.out lo
      by_cases hinf : lo = 9218868437227405312
      · have HI := Lib.hid hinf
        have hn1 : ¬ (lo : Int) < 9218868437227405312 := by omega
        clear hinf hlt
        go_wp2_with fail
        go_ret2
        refine ⟨lo, rfl, Lib.hid ?_, hB⟩
        exact near_first (by omega) HLO.out (fun h => absurd h (by have := HI.out; omega)) (fun h => absurd h (by have := HI.out; omega))
      · have hl1 : lo < 9218868437227405312 := by omega
        have cz := CU.out A1 d1 lo wr hl1 (HQ.out.below hb)
        have hle := HUP.out hl1
        have hl1i : (lo : Int) < 9218868437227405312 := by omega
        have HL1 := Lib.hid hl1
        by_cases hodd : lo % 2 = 1
        · have ho : ((lo : Int) % 2 == 1) = true := by rw [beq_iff_eq]; omega
          by_cases heq : X = mid2 D lo
          · rw [cmpZ_eq heq] at cz
            have CZ := Lib.hid cz
            have HE := Lib.hid heq
            have HO := Lib.hid hodd
            have hf2 := HFR.out (lo + 1)
            rw [show ((lo + 1 : Nat) : Int) = (lo : Int) + 1 by omega] at hf2
            clear cz heq hinf hlt hle hf1 hl1 hhi hodd
            go_wp2_with fail
            refine CZ.out.mono ?_
            rintro e w2 ⟨rfl, nb⟩
            have hB := hB.trans (nb.mono hB.size)
            clear nb
            go_wp2_with fail
            go_ret2
            refine ⟨lo + 1, rfl, Lib.hid ?_, hB⟩
            exact near_second HD.out HL1.out HO.out HE.out
          · have hc : X < mid2 D lo := by omega
            rw [cmpZ_lt hc] at cz
            have CZ := Lib.hid cz
            have HC := Lib.hid hc
            clear cz heq hinf hlt hle hc hl1 hhi hodd
            go_wp2_with fail
            refine CZ.out.mono ?_
            rintro e w2 ⟨rfl, nb⟩
            have hB := hB.trans (nb.mono hB.size)
            clear nb
            go_wp2_with fail
            go_ret2
            refine ⟨lo, rfl, Lib.hid ?_, hB⟩
            exact near_first (Nat.le_of_lt HL1.out) HLO.out (fun _ => Nat.le_of_lt HC.out) (fun _ he => absurd he (Nat.ne_of_lt HC.out))
        · have ho : ((lo : Int) % 2 == 1) = false := by rw [beq_eq_false_iff_ne]; omega
          have HL := Lib.hid hle
          have HO := Lib.hid hodd
          clear cz hinf hlt hle hodd hl1 hhi
          go_wp2_with fail
          go_ret2
          refine ⟨lo, rfl, Lib.hid ?_, hB⟩
          exact near_first (Nat.le_of_lt HL1.out) HLO.out (fun _ => HL.out) (fun _ _ => by have := HO.out; omega)
/-- The definition's Read. -/
theorem rread_end (s : ByteArray) (x : Int) (w : World) (hs : s.size ≤ 1024) (hd : isDec s = true) :
    Calls Tryz.prog 201 #[.string s, .int .i64 x] w (RRead w (2 * (pv s.data.toList * 10 ^ x.toNat) * S1074) (10 ^ (-x).toNat)) := by
  by_cases h : pv s.data.toList = 0 ∨ x < -1500 ∨ 400 < x
  · exact rread_far s x w hs hd h
  · exact rread_mid s x _ _ _ w hs hd rfl (by omega) (by omega) (by omega) rfl rfl
end Go.Proofs.YtmceakbjholjpaaGreatDoor

namespace Go.Proofs.YtmceakbjholjpaaGreatDoor
open Go.RowKit Go.Lib

/-- Does a decimal digit stand there? -/
def digAt (l : List UInt8) (i : Nat) : Bool := match l[i]? with | some c => isD c | none => false
theorem digAt_lt {l : List UInt8} {i : Nat} (h : digAt l i = true) : i < l.length := by
  unfold digAt at h
  cases e : l[i]? with
  | none => rw [e] at h; cases h
  | some c => exact (List.getElem?_eq_some_iff.1 e).1
theorem digAt_at {l : List UInt8} {i : Nat} (h : i < l.length) : digAt l i = isD l[i] := by
  unfold digAt
  rw [List.getElem?_eq_getElem h]
set_option maxRecDepth 100000 in
set_option maxHeartbeats 1000000 in
theorem isDigit_any (s : ByteArray) (i : Nat) (w : World) (_hs : s.size ≤ 4611686018427387904) (_hi : i ≤ 4611686018427387904) : Calls Tryz.prog 157 #[.string s, .int .i64 (i : Int)] w fun e w' => e = .returned (.bool (digAt s.data.toList i)) ∧ w = w' := by
  by_cases hlt : i < s.size
  · have hb := ba_byte s rfl i hlt
    have hl : i < s.data.toList.length := by rw [ba_len]; exact hlt
    obtain ⟨z, hz⟩ : ∃ z, (s[i]'hlt).toNat = z := ⟨_, rfl⟩
    have hzi : (((s[i]'hlt).toNat : Nat) : Int) = (z : Int) := by rw [hz]
    have hE : digAt s.data.toList i = (decide (48 ≤ z) && decide (z ≤ 57)) := by
      unfold digAt
      rw [hb]
      show isD (s[i]'hlt) = _
      unfold isD
      rw [hz]
    rw [hE]
    by_cases h1 : 48 ≤ z
    · by_cases h2 : z ≤ 57
      · have h1i : (48 : Int) ≤ (z : Int) := by omega
        have h2i : (z : Int) ≤ 57 := by omega
        rw [decide_eq_true h1, decide_eq_true h2]
        clear hb hl hE hz
        go_enter Tryz.func157, Tryz.ntmps157
        go_wp2
        go_ret
        exact ⟨rfl, rfl⟩
      · have h1i : (48 : Int) ≤ (z : Int) := by omega
        have h2i : ¬ (z : Int) ≤ 57 := by omega
        rw [decide_eq_true h1, decide_eq_false h2]
        clear hb hl hE hz
        go_enter Tryz.func157, Tryz.ntmps157
        go_wp2
        go_ret
        exact ⟨rfl, rfl⟩
    · have h1i : ¬ (48 : Int) ≤ (z : Int) := by omega
      rw [decide_eq_false h1, Bool.false_and]
      clear hb hl hE hz
      go_enter Tryz.func157, Tryz.ntmps157
      go_wp2
      go_ret
      exact ⟨rfl, rfl⟩
  · have hE : digAt s.data.toList i = false := by
      cases h : digAt s.data.toList i with
      | false => rfl
      | true => have := digAt_lt h; rw [ba_len] at this; omega
    rw [hE]
    have hl : ¬ (i : Int) < (s.size : Int) := by omega
    clear hE
    go_enter Tryz.func157, Tryz.ntmps157
    go_wp2
    go_ret
    exact ⟨rfl, rfl⟩
def blB (c : Nat) : Bool := c == 32 || c == 9 || c == 10
theorem blB_contains (c : UInt8) : ([32, 9, 10] : List UInt8).contains c = blB c.toNat := by
  unfold blB
  have h : ∀ k : UInt8, (c == k) = (c.toNat == k.toNat) := fun k => by
    rw [Bool.eq_iff_iff, beq_iff_eq, beq_iff_eq]
    exact ⟨fun e => by rw [e], fun e => UInt8.toNat_inj.1 e⟩
  rw [List.contains_cons, List.contains_cons, List.contains_cons, List.contains_nil, h, h, h]
  simp [Bool.or_assoc]
set_option maxRecDepth 100000 in
set_option maxHeartbeats 1000000 in
theorem blank_any (c : Nat) (w : World) (hc : c < 256) : Calls Tryz.prog 68 #[.int .u8 (c : Int)] w fun e w' => e = .returned (.bool (blB c)) ∧ w = w' := by
  unfold blB
  by_cases h1 : c = 32
  · subst h1
    go_enter Tryz.func68, Tryz.ntmps68
    go_wp2
    go_ret
    exact ⟨rfl, rfl⟩
  · by_cases h2 : c = 9
    · subst h2
      go_enter Tryz.func68, Tryz.ntmps68
      go_wp2
      go_ret
      exact ⟨rfl, rfl⟩
    · by_cases h3 : c = 10
      · subst h3
        go_enter Tryz.func68, Tryz.ntmps68
        go_wp2
        go_ret
        exact ⟨rfl, rfl⟩
      · have e1 : (c == 32) = false := by rw [beq_eq_false_iff_ne]; exact h1
        have e2 : (c == 9) = false := by rw [beq_eq_false_iff_ne]; exact h2
        have e3 : (c == 10) = false := by rw [beq_eq_false_iff_ne]; exact h3
        rw [e1, e2, e3]
        have g1 : ((c : Int) == 32) = false := by rw [beq_eq_false_iff_ne]; omega
        have g2 : ((c : Int) == 9) = false := by rw [beq_eq_false_iff_ne]; omega
        have g3 : ((c : Int) == 10) = false := by rw [beq_eq_false_iff_ne]; omega
        clear h1 h2 h3 e1 e2 e3
        go_enter Tryz.func68, Tryz.ntmps68
        go_wp2
        go_ret
        exact ⟨rfl, rfl⟩
set_option maxRecDepth 100000 in
set_option maxHeartbeats 1000000 in
/-- The same bits, or both a NaN. -/
theorem same_true (x y : Nat) (w : World) (_hx : x < 18446744073709551616) (hy : y < 18446744073709551616) (h : cn x = cn y) : Calls Tryz.prog 30 #[.float .f64 x, .float .f64 y] w fun e w' => e = .returned (.bool true) ∧ w = w' := by
  have b1 := fun W => run_f64bits x W
  have b2 := fun W => run_f64bits y W
  by_cases hn : 9218868437227405312 < mag x
  · have hn2 : 9218868437227405312 < mag y := by
      rw [cn_nan hn] at h
      rcases Nat.lt_or_ge 9218868437227405312 (mag y) with h1 | h1
      · exact h1
      · rw [cn_id h1] at h
        rw [← h] at h1
        exact absurd h1 (by decide)
    have t1 : (FloatKind.f64.format.order x x != some .eq) = true := nan_yes hn
    have t2 : (FloatKind.f64.format.order y y != some .eq) = true := nan_yes hn2
    clear hn hn2 h
    go_enter Tryz.func30, Tryz.ntmps30
    go_wp2
    go_ret
    exact ⟨rfl, rfl⟩
  · have hxy : x = y := by
      rw [cn_id (by omega)] at h
      unfold cn at h
      split at h
      · rw [h] at hn
        exact absurd (by decide : 9218868437227405312 < mag qN) hn
      · exact h
    subst hxy
    have t1 : (FloatKind.f64.format.order x x != some .eq) = false := nan_no (by omega)
    have t3 : ((x : Int) == (x : Int)) = true := by rw [beq_iff_eq]
    clear hn h
    go_enter Tryz.func30, Tryz.ntmps30
    go_wp2
    go_ret
    exact ⟨rfl, rfl⟩
end Go.Proofs.YtmceakbjholjpaaGreatDoor

namespace Go.Proofs.YtmceakbjholjpaaGreatDoor

theorem far_pow : 2 * S1074 ≤ 10 ^ 324 := by decide +kernel
theorem near_low_end {n len : Nat} {e : Int} (hn : n < 10 ^ len) (h : e + (len : Int) < -400) : Near (2 * (n * 10 ^ e.toNat) * S1074) (10 ^ (-e).toNat) 0 := by
  obtain ⟨c, hc⟩ : ∃ c, (-e).toNat = c := ⟨_, rfl⟩
  obtain ⟨t, ht⟩ : ∃ t : Nat, t = 324 := ⟨_, rfl⟩
  have hf := far_pow
  rw [← ht] at hf
  rw [hc, show e.toNat = 0 by omega, Nat.pow_zero, Nat.mul_one]
  have h1 : 2 * n * S1074 < 10 ^ c := by
    have a1 : 2 * n * S1074 = n * (2 * S1074) := by
      generalize S1074 = z
      ac_rfl
    rw [a1]
    have a2 : n * (2 * S1074) ≤ n * 10 ^ t := Nat.mul_le_mul_left _ hf
    have a3 : n * 10 ^ t < 10 ^ len * 10 ^ t := Nat.mul_lt_mul_of_pos_right hn (Nat.pow_pos (by omega))
    rw [← Nat.pow_add] at a3
    have a4 : 10 ^ (len + t) ≤ 10 ^ c := Nat.pow_le_pow_right (by omega) (by omega)
    exact Nat.lt_of_le_of_lt a2 (Nat.lt_of_lt_of_le a3 a4)
  have hV : V 0 + V (0 + 1) = 1 := by decide
  refine ⟨fun q e => absurd e (by omega), fun q e => absurd e (by omega), fun _ => ?_, fun _ g => ?_, by omega⟩
  · rw [hV, Nat.one_mul]
    exact Nat.le_of_lt h1
  · rfl
theorem near_high_end {n len : Nat} {e : Int} (hn : 10 ^ (len - 1) ≤ n) (hl : 1 ≤ len) (h : 400 < e + (len : Int)) : Near (2 * (n * 10 ^ e.toNat) * S1074) (10 ^ (-e).toNat) 9218868437227405312 := by
  obtain ⟨t, ht⟩ : ∃ t : Nat, t = 310 := ⟨_, rfl⟩
  have hT := near_far_top (n := 1) (c := t) (by omega) (by omega)
  have h1 : 10 ^ t * 10 ^ (-e).toNat ≤ n * 10 ^ e.toNat := by
    have a1 : 10 ^ (len - 1) * 10 ^ e.toNat ≤ n * 10 ^ e.toNat := Nat.mul_le_mul_right _ hn
    rw [← Nat.pow_add] at a1
    rw [← Nat.pow_add]
    exact Nat.le_trans (Nat.pow_le_pow_right (by omega) (by omega)) a1
  refine ⟨fun q hq => ?_, fun q hq _ => by decide, fun g => absurd g (by omega), fun g => absurd g (by omega), by omega⟩
  have b := hT.lo q hq
  rw [Nat.mul_one, Nat.one_mul] at b
  have b2 : (V q + V 9218868437227405312) * 10 ^ (-e).toNat ≤ 2 * 10 ^ t * S1074 * 10 ^ (-e).toNat := Nat.mul_le_mul_right _ b
  refine Nat.le_trans b2 ?_
  have e1 : 2 * 10 ^ t * S1074 * 10 ^ (-e).toNat = 2 * (10 ^ t * 10 ^ (-e).toNat) * S1074 := by
    generalize S1074 = z
    ac_rfl
  rw [e1]
  exact Nat.mul_le_mul_right _ (Nat.mul_le_mul_left _ h1)
end Go.Proofs.YtmceakbjholjpaaGreatDoor

namespace Go.Proofs.YtmceakbjholjpaaGreatDoor
open Go.RowKit Go.Lib

def cod (l : List UInt8) : List Nat := l.map UInt8.toNat
theorem cod_len (l : List UInt8) : (cod l).length = l.length := List.length_map _
theorem cod_get {l : List UInt8} {j : Nat} (h : j < l.length) : (cod l)[j]'(by rw [cod_len]; exact h) = (l[j]).toNat := by simp [cod]
theorem rd_cell {w : World} {g o : Nat} {l : List UInt8} (h : Rd .u8 w (some ⟨g, o, none⟩) (cod l)) {j : Nat} (hj : j < l.length) : w.cell? ⟨g, o + j, none⟩ = some (.int .u8 (((l[j]).toNat : Nat) : Int)) := by
  obtain ⟨g', o', e, hc⟩ := h j (by rw [cod_len]; exact hj)
  cases e
  rw [hc, cod_get hj]
theorem rd_drop {w : World} {g o k : Nat} {l : List UInt8} (h : Rd .u8 w (some ⟨g, o, none⟩) (cod l)) : Rd .u8 w (some ⟨g, o + k, none⟩) (cod (l.drop k)) := by
  refine Rd.of fun j hj => ?_
  rw [cod_len, List.length_drop] at hj
  have hc := rd_cell h (j := k + j) (by omega)
  rw [Nat.add_assoc, hc, cod_get (by rw [List.length_drop]; exact hj), List.getElem_drop]
theorem conv_rd (w : World) (g o cap : Nat) (l : List UInt8) (h : Rd .u8 w (some ⟨g, o, none⟩) (cod l)) : (convert 138 9 (.slice (some ⟨g, o, none⟩) l.length cap)).run Tryz.prog w = .ok (.string ⟨l.toArray⟩) w := by
  refine run_convert_bytes_back (P := Tryz.prog) w 138 9 5 ⟨g, o, none⟩ cap l Tryz.underlying138 Tryz.underlying5 Tryz.underlying9 (fun j hj => ?_)
  rw [Addr.add_lit, rd_cell h hj]
/-- How many noughts stand ahead. -/
def nz (l : List UInt8) : Nat := l.length - (l.dropWhile (· == 48)).length
theorem nz_take (l : List UInt8) : nz l = (l.takeWhile (· == 48)).length := by
  have h : l.takeWhile (· == 48) ++ l.dropWhile (· == 48) = l := List.takeWhile_append_dropWhile
  have hl := congrArg List.length h
  rw [List.length_append] at hl
  unfold nz
  omega
theorem nz_drop (l : List UInt8) : l.drop (nz l) = l.dropWhile (· == 48) := by
  have h : l.takeWhile (· == 48) ++ l.dropWhile (· == 48) = l := List.takeWhile_append_dropWhile
  have e := List.drop_left (l₁ := l.takeWhile (· == 48)) (l₂ := l.dropWhile (· == 48))
  rw [h] at e
  rw [nz_take]
  exact e
theorem nz_le (l : List UInt8) : nz l ≤ l.length := Nat.sub_le _ _
theorem nz_at {l : List UInt8} {j : Nat} (hj : j < nz l) : l[j]'(Nat.lt_of_lt_of_le hj (nz_le l)) = 48 := by
  have h : l.takeWhile (· == 48) ++ l.dropWhile (· == 48) = l := List.takeWhile_append_dropWhile
  have hj2 : j < (l.takeWhile (· == 48)).length := by rw [← nz_take]; exact hj
  have e := List.getElem?_append_left (l₂ := l.dropWhile (· == 48)) hj2
  rw [h, List.getElem?_eq_getElem (Nat.lt_of_lt_of_le hj (nz_le l)), List.getElem?_eq_getElem hj2] at e
  rw [Option.some.inj e]
  have := List.all_eq_true.1 (List.all_takeWhile (p := (· == (48 : UInt8))) (l := l)) _ (List.getElem_mem hj2)
  exact eq_of_beq this
def RVal (w : World) (X D : Nat) (e : Ending) (w' : World) : Prop := ∃ r, e = .returned (.float .f64 r) ∧ Hid (Near X D r) ∧ Below w.heap.size w w'
set_option maxRecDepth 100000 in
set_option maxHeartbeats 2000000 in
theorem rvalue_zero (A : Option Addr) (n cap : Nat) (ds : List UInt8) (x : Int) (w : World) (hn : ds.length = n) (hcap : n ≤ cap) (hcm : cap ≤ 9223372036854775807) (hra : Rd .u8 w A (cod ds)) (h0 : nz ds = n) (X D : Nat) (hX : X = 0) (hD : 0 < D) :
    Calls Tryz.prog 158 #[.slice A n cap, .int .i64 x] w (RVal w X D) := by
  have HZ := Lib.hid (show Near X D 0 by rw [hX]; exact near_zero hD)
  have HA := Lib.hid (fun (j : Nat) (hj : j < n) => show ∃ g o, A = some ⟨g, o, none⟩ ∧ w.cell? ⟨g, o + j, none⟩ = some (.int .u8 48) by
    obtain ⟨g, o, e, hc⟩ := hra j (by rw [cod_len, hn]; exact hj)
    refine ⟨g, o, e, ?_⟩
    rw [hc, cod_get (by omega), nz_at (by omega)]
    rfl)
  have hcc : cap = n ∨ ¬ cap = n := by omega
  clear hX hra hn h0
  rcases hcc with hc | hc
  all_goals
    go_enter Tryz.func158, Tryz.ntmps158
    go_wp2
    go_loop [5] (fun kv => ∃ j : Nat, j ≤ n ∧ kv = .int .i64 (j : Int)) (fun kv => n - (RowKit.intOf kv).toNat)
    case atStart => exact ⟨0, by omega, rfl⟩
    case round =>
      obtain ⟨j, hj, rfl⟩ := hrel
      by_cases hlt : j < n
      · obtain ⟨g, o, rfl, hcell⟩ := HA.out j hlt
        go_wp2_with fail
        go_round
        case rel => exact ⟨j + 1, by omega, by go_num⟩
        case measure => simp [RowKit.intOf]; omega
      · obtain rfl : j = n := by omega
        go_wp2_with fail
        go_ret
        exact ⟨0, rfl, HZ, Below.refl _ _⟩
end Go.Proofs.YtmceakbjholjpaaGreatDoor

namespace Go.Proofs.YtmceakbjholjpaaGreatDoor
open Go.RowKit Go.Lib

theorem nz_stop {l : List UInt8} (h : nz l < l.length) : l[nz l] ≠ 48 := by
  have e := nz_drop l
  rw [List.drop_eq_getElem_cons h] at e
  exact trim_head e.symm
theorem nz_pv (l : List UInt8) : pv l = pv (l.drop (nz l)) := by rw [nz_drop, pv_trim]
theorem lead_ge {l : List UInt8} (hd : Dec l) (h : nz l < l.length) : 10 ^ ((l.drop (nz l)).length - 1) ≤ pv (l.drop (nz l)) := by
  rw [List.drop_eq_getElem_cons h, List.length_cons, Nat.add_sub_cancel]
  refine pv_ge (fun c hc => hd c ?_) (nz_stop h)
  rw [← List.drop_eq_getElem_cons h] at hc
  exact List.drop_subset _ _ hc
set_option maxRecDepth 100000 in
set_option maxHeartbeats 2000000 in
theorem rvalue_low (g o n m k cap : Nat) (ds : List UInt8) (x : Int) (w : World) (hn : ds.length = n) (hk : nz ds = k) (hkm : n = k + m) (hm0 : 0 < m) (hm : m ≤ 1000) (hcap : n ≤ cap) (hcm : cap ≤ 9223372036854775807) (hx0 : -1000000 ≤ x) (hx9 : x ≤ 1000000) (hd : Dec ds) (hra : Rd .u8 w (some ⟨g, o, none⟩) (cod ds)) (hx : x + (m : Int) < -400) :
    Calls Tryz.prog 158 #[.slice (some ⟨g, o, none⟩) n cap, .int .i64 x] w (RVal w (2 * (pv ds * 10 ^ x.toNat) * S1074) (10 ^ (-x).toNat)) := by
  have hTl : (ds.drop k).length = m := by rw [List.length_drop]; omega
  have HA := Lib.hid (fun (j : Nat) (hj : j < k) => show w.cell? ⟨g, o + j, none⟩ = some (.int .u8 48) by
    rw [rd_cell hra (j := j) (by omega), nz_at (by omega)]
    rfl)
  obtain ⟨z, hz⟩ : ∃ z, (ds[k]'(by omega)).toNat = z := ⟨_, rfl⟩
  have hzc : w.cell? ⟨g, o + k, none⟩ = some (.int .u8 (z : Int)) := by rw [rd_cell hra (j := k) (by omega), hz]
  have hz48 : z ≠ 48 := by
    intro e
    subst hk
    exact nz_stop (l := ds) (by omega) (UInt8.toNat_inj.1 (by rw [hz, e]; rfl))
  have hzb : ((z : Int) == 48) = false := by rw [beq_eq_false_iff_ne]; omega
  have hp := nz_pv ds
  rw [hk] at hp
  have hTd : Dec (ds.drop k) := fun c hc => hd c (List.drop_subset _ _ hc)
  have hlead : 10 ^ (m - 1) ≤ pv (ds.drop k) := by
    have h := lead_ge hd (by omega)
    rwa [hk, hTl] at h
  have hlt := pv_lt hTd
  rw [hTl] at hlt
  rw [hp]
  obtain ⟨T, hT⟩ : ∃ T, ds.drop k = T := ⟨_, rfl⟩
  rw [hT] at hTl hTd hlead hlt
  rw [hT]
  have HZ := Lib.hid (near_low_end (e := x) hlt hx)
  have g1 : x + (m : Int) < -400 := hx
  obtain ⟨XX, hXX⟩ : ∃ XX, 2 * (pv T * 10 ^ x.toNat) * S1074 = XX := ⟨_, rfl⟩
  obtain ⟨DD, hDD⟩ : ∃ DD, 10 ^ (-x).toNat = DD := ⟨_, rfl⟩
  rw [hXX, hDD] at HZ ⊢
  have hnk : (n : Int) - (k : Int) = (m : Int) := by omega
  have hnk2 : n - k = m := by omega
  have hck : ¬ cap = k := by omega
  clear hTl hTd hlead hlt hp hz hz48 hra hd hn hk hT hx hXX hDD
  go_enter Tryz.func158, Tryz.ntmps158
  go_wp2
  go_loop [5] (fun kv => ∃ j : Nat, j ≤ k ∧ kv = .int .i64 (j : Int)) (fun kv => k - (RowKit.intOf kv).toNat)
  case atStart => exact ⟨0, by omega, rfl⟩
  case round =>
    obtain ⟨j, hj, rfl⟩ := hrel
    by_cases hlt : j < k
    · have hcell := HA.out j hlt
      go_wp2_with fail
      go_round
      case rel => exact ⟨j + 1, by omega, by go_num⟩
      case measure => simp [RowKit.intOf]; omega
    · obtain rfl : j = k := by omega
      go_wp2_with fail
      go_ret
      exact ⟨0, rfl, HZ, Below.refl _ _⟩
set_option maxRecDepth 100000 in
set_option maxHeartbeats 2000000 in
theorem rvalue_high (g o n m k cap : Nat) (ds : List UInt8) (x : Int) (w : World) (hn : ds.length = n) (hk : nz ds = k) (hkm : n = k + m) (hm0 : 0 < m) (hm : m ≤ 1000) (hcap : n ≤ cap) (hcm : cap ≤ 9223372036854775807) (hx0 : -1000000 ≤ x) (hx9 : x ≤ 1000000) (hd : Dec ds) (hra : Rd .u8 w (some ⟨g, o, none⟩) (cod ds)) (hx : 400 < x + (m : Int)) :
    Calls Tryz.prog 158 #[.slice (some ⟨g, o, none⟩) n cap, .int .i64 x] w (RVal w (2 * (pv ds * 10 ^ x.toNat) * S1074) (10 ^ (-x).toNat)) := by
  have hTl : (ds.drop k).length = m := by rw [List.length_drop]; omega
  have HA := Lib.hid (fun (j : Nat) (hj : j < k) => show w.cell? ⟨g, o + j, none⟩ = some (.int .u8 48) by
    rw [rd_cell hra (j := j) (by omega), nz_at (by omega)]
    rfl)
  obtain ⟨z, hz⟩ : ∃ z, (ds[k]'(by omega)).toNat = z := ⟨_, rfl⟩
  have hzc : w.cell? ⟨g, o + k, none⟩ = some (.int .u8 (z : Int)) := by rw [rd_cell hra (j := k) (by omega), hz]
  have hz48 : z ≠ 48 := by
    intro e
    subst hk
    exact nz_stop (l := ds) (by omega) (UInt8.toNat_inj.1 (by rw [hz, e]; rfl))
  have hzb : ((z : Int) == 48) = false := by rw [beq_eq_false_iff_ne]; omega
  have hp := nz_pv ds
  rw [hk] at hp
  have hTd : Dec (ds.drop k) := fun c hc => hd c (List.drop_subset _ _ hc)
  have hlead : 10 ^ (m - 1) ≤ pv (ds.drop k) := by
    have h := lead_ge hd (by omega)
    rwa [hk, hTl] at h
  have hlt := pv_lt hTd
  rw [hTl] at hlt
  rw [hp]
  obtain ⟨T, hT⟩ : ∃ T, ds.drop k = T := ⟨_, rfl⟩
  rw [hT] at hTl hTd hlead hlt
  rw [hT]
  have HZ := Lib.hid (near_high_end (e := x) hlead (by omega) hx)
  have hfr : ∀ W : World, (callFunc 18 #[.int .u64 9218868437227405312]).run Tryz.prog W = .ok (.value (.float .f64 9218868437227405312)) W := fun W => run_f64from 9218868437227405312 W
  have g1 : ¬ x + (m : Int) < -400 := by omega
  have g2 : 400 < x + (m : Int) := hx
  obtain ⟨XX, hXX⟩ : ∃ XX, 2 * (pv T * 10 ^ x.toNat) * S1074 = XX := ⟨_, rfl⟩
  obtain ⟨DD, hDD⟩ : ∃ DD, 10 ^ (-x).toNat = DD := ⟨_, rfl⟩
  rw [hXX, hDD] at HZ ⊢
  have hnk : (n : Int) - (k : Int) = (m : Int) := by omega
  have hnk2 : n - k = m := by omega
  have hck : ¬ cap = k := by omega
  clear hTl hTd hlead hlt hp hz hz48 hra hd hn hk hT hx hXX hDD
  go_enter Tryz.func158, Tryz.ntmps158
  go_wp2
  go_loop [5] (fun kv => ∃ j : Nat, j ≤ k ∧ kv = .int .i64 (j : Int)) (fun kv => k - (RowKit.intOf kv).toNat)
  case atStart => exact ⟨0, by omega, rfl⟩
  case round =>
    obtain ⟨j, hj, rfl⟩ := hrel
    by_cases hlt : j < k
    · have hcell := HA.out j hlt
      go_wp2_with fail
      go_round
      case rel => exact ⟨j + 1, by omega, by go_num⟩
      case measure => simp [RowKit.intOf]; omega
    · obtain rfl : j = k := by omega
      go_wp2_with fail
      go_ret
      exact ⟨_, rfl, HZ, Below.refl _ _⟩
set_option maxRecDepth 100000 in
set_option maxHeartbeats 2000000 in
theorem rvalue_mid (g o n m k cap : Nat) (ds : List UInt8) (x : Int) (w : World) (hn : ds.length = n) (hk : nz ds = k) (hkm : n = k + m) (hm0 : 0 < m) (hm : m ≤ 1000) (hcap : n ≤ cap) (hcm : cap ≤ 9223372036854775807) (_hx0 : -1000000 ≤ x) (_hx9 : x ≤ 1000000) (hd : Dec ds) (hra : Rd .u8 w (some ⟨g, o, none⟩) (cod ds)) (hx1 : -400 ≤ x + (m : Int)) (hx2 : x + (m : Int) ≤ 400) :
    Calls Tryz.prog 158 #[.slice (some ⟨g, o, none⟩) n cap, .int .i64 x] w (RVal w (2 * (pv ds * 10 ^ x.toNat) * S1074) (10 ^ (-x).toNat)) := by
  have hTl : (ds.drop k).length = m := by rw [List.length_drop]; omega
  have HA := Lib.hid (fun (j : Nat) (hj : j < k) => show w.cell? ⟨g, o + j, none⟩ = some (.int .u8 48) by
    rw [rd_cell hra (j := j) (by omega), nz_at (by omega)]
    rfl)
  obtain ⟨z, hz⟩ : ∃ z, (ds[k]'(by omega)).toNat = z := ⟨_, rfl⟩
  have hzc : w.cell? ⟨g, o + k, none⟩ = some (.int .u8 (z : Int)) := by rw [rd_cell hra (j := k) (by omega), hz]
  have hz48 : z ≠ 48 := by
    intro e
    subst hk
    exact nz_stop (l := ds) (by omega) (UInt8.toNat_inj.1 (by rw [hz, e]; rfl))
  have hzb : ((z : Int) == 48) = false := by rw [beq_eq_false_iff_ne]; omega
  have hp := nz_pv ds
  rw [hk] at hp
  have hTd : Dec (ds.drop k) := fun c hc => hd c (List.drop_subset _ _ hc)
  have hlead : 10 ^ (m - 1) ≤ pv (ds.drop k) := by
    have h := lead_ge hd (by omega)
    rwa [hk, hTl] at h
  have hlt := pv_lt hTd
  rw [hTl] at hlt
  rw [hp]
  obtain ⟨T, hT⟩ : ∃ T, ds.drop k = T := ⟨_, rfl⟩
  rw [hT] at hTl hTd hlead hlt
  rw [hT]
  obtain ⟨TB, hTB⟩ : ∃ TB : ByteArray, (⟨T.toArray⟩ : ByteArray) = TB := ⟨_, rfl⟩
  have hTBl : TB.data.toList = T := by rw [← hTB]
  have hcv : (convert 138 9 (.slice (some ⟨g, o + k, none⟩) m (cap - k))).run Tryz.prog w = .ok (.string TB) w := by
    have h := conv_rd w g (o + k) (cap - k) T (by rw [← hT]; exact rd_drop hra)
    rw [hTl, hTB] at h
    exact h
  have cR := rread_end TB x w (by rw [← ba_len, hTBl]; omega) (isDec_iff.2 ⟨by rw [← ba_len, hTBl]; omega, by rw [hTBl]; exact hTd⟩)
  rw [hTBl] at cR
  obtain ⟨XX, hXX⟩ : ∃ XX, 2 * (pv T * 10 ^ x.toNat) * S1074 = XX := ⟨_, rfl⟩
  obtain ⟨DD, hDD⟩ : ∃ DD, 10 ^ (-x).toNat = DD := ⟨_, rfl⟩
  rw [hXX, hDD] at cR ⊢
  have CR := Lib.hid cR
  have g1 : ¬ x + (m : Int) < -400 := by omega
  have g2 : ¬ 400 < x + (m : Int) := by omega
  have hnk : (n : Int) - (k : Int) = (m : Int) := by omega
  have hnk2 : n - k = m := by omega
  have hck : ¬ cap = k := by omega
  clear hTl hTd hlead hlt hp hz hz48 hra hd hn hk hT hTB hTBl cR hXX hDD hx1 hx2
  go_enter Tryz.func158, Tryz.ntmps158
  go_wp2
  go_loop [5] (fun kv => ∃ j : Nat, j ≤ k ∧ kv = .int .i64 (j : Int)) (fun kv => k - (RowKit.intOf kv).toNat)
  case atStart => exact ⟨0, by omega, rfl⟩
  case round =>
    obtain ⟨j, hj, rfl⟩ := hrel
    by_cases hlt : j < k
    · have hcell := HA.out j hlt
      go_wp2_with fail
      go_round
      case rel => exact ⟨j + 1, by omega, by go_num⟩
      case measure => simp [RowKit.intOf]; omega
    · obtain rfl : j = k := by omega
      go_wp2_with fail
      refine CR.out.mono ?_
      rintro e w1 ⟨r, rfl, hr, hB⟩
      go_wp2_with fail
      go_ret
      exact ⟨r, rfl, hr, hB⟩
end Go.Proofs.YtmceakbjholjpaaGreatDoor
