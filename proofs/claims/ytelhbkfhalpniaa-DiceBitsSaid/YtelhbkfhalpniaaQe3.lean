/- Several texts in one (The definition of layer 2: Mul; The definition of layer 3: Parts, above; The definition of layer 2: Text; Plain: rounding hangs on the ratio alone; texts of digits cut and padded. No walk here; The definition of layer 3: Digits; Plain: of more than 768 digits it only counts whether the rest is nought. No walk here; Contracts of layer 4: the float nearest to a numeral of more than 1022 digits; Contracts of layer 4: cutHex; The definition of layer 2: Parse; The definition of layer 3: Read, by halves; The definition of layer 3: Read's bisection; Plain: numbers far below and far above all floats. No walk here). -/
import Derived.Laws.CopyOwn
import Derived.Outline
import Derived.Lib.BitFns
import Derived.Deep.RegionWith
import Derived.Test.YtelhbkfhalpniaaShelf
import Derived.Lib.MinMax
import Derived.WalkSpells
import Derived.Shelf.Strings.SlTrimAscii
import Derived.Test.YtelhbkfhalpniaaQe1
import Derived.Test.YtelhbkfhalpniaaQe2
namespace Go.Proofs.Ytelhbkfhalpniaa
open Go.RowKit Go.Lib

/-- The state of the inner loop. -/
structure RMul (base cur : List Nat) (i j c x : Nat) (ys : List Nat) : Prop where
  len : cur.length = base.length
  lim : Lim D4 cur
  hc : c < 10000
  eq : vl D4 cur + D4 ^ (i + j) * c = vl D4 base + D4 ^ i * (x * vl D4 (ys.take j))
theorem rmul_start {base : List Nat} (h : Lim D4 base) (i x : Nat) (ys : List Nat) : RMul base base i 0 0 x ys := ⟨rfl, h, by omega, by simp [vl]⟩
theorem rmul_step {base cur ys : List Nat} {i j c x : Nat} (h : RMul base cur i j c x ys) (hx : x < 10000) (hy : Lim D4 ys) (hi : i + j < cur.length) (z : Nat) (hz : z = c + cur[i + j] + x * ys.getD j 0) :
    RMul base (cur.set (i + j) (z % 10000)) i (j + 1) (z / 10000) x ys := by
  have b1 : ys.getD j 0 < 10000 := getD_lt hy (by decide) j
  have b2 : cur[i + j] < 10000 := lim_get h.lim (i + j) hi
  refine ⟨by rw [List.length_set, h.len], lim_set h.lim (Nat.mod_lt _ (by decide)), ?_, ?_⟩
  · have h1 : x * ys.getD j 0 ≤ 9999 * 9999 := Nat.mul_le_mul (by omega) (by omega)
    have h3 := h.hc
    omega
  · have e1 := vl_set D4 cur (i + j) (z % 10000) hi
    have e2 := h.eq
    have hd : D4 ^ (i + j) * z = D4 ^ (i + j) * (z % 10000) + D4 ^ (i + j) * D4 * (z / 10000) := digit_step (B := 10000) (P := D4 ^ (i + j)) (z := z)
    have e3 := congrArg (D4 ^ (i + j) * ·) hz
    have e4 : D4 ^ i * (x * (D4 ^ j * ys.getD j 0)) = D4 ^ (i + j) * (x * ys.getD j 0) := by rw [Nat.pow_add, Nat.mul_left_comm x, Nat.mul_assoc]
    rw [vl_take_get, show i + (j + 1) = (i + j) + 1 by omega, Nat.pow_succ]
    simp only [Nat.mul_add] at e3 ⊢
    rw [e4]
    omega
/-- Beyond the second number's last piece and one more nothing is carried. -/
theorem rmul_carry {base cur xs ys : List Nat} {i j c x : Nat} (h : RMul base cur i j c x ys) (hv : vl D4 base = vl D4 (xs.take i) * vl D4 ys) (hxi : i < xs.length) (hxx : xs[i] = x) (hx : Lim D4 xs) (hy : Lim D4 ys) (hj : ys.length ≤ j) (hc : 0 < c) : j ≤ ys.length := by
  have e := h.eq
  rw [vl_take_all hj, hv] at e
  have e2 : vl D4 (xs.take i) * vl D4 ys + D4 ^ i * (x * vl D4 ys) = vl D4 (xs.take (i + 1)) * vl D4 ys := by
    rw [vl_take_succ D4 xs i hxi, hxx, Nat.add_mul, Nat.mul_assoc]
  rw [e2] at e
  have h1 : vl D4 (xs.take (i + 1)) < D4 ^ (i + 1) := by
    have := vl_lt (lim_take hx (i + 1))
    rwa [List.length_take, Nat.min_eq_left (by omega)] at this
  have h2 := vl_lt hy
  have h3 : vl D4 (xs.take (i + 1)) * vl D4 ys < D4 ^ (i + 1) * D4 ^ ys.length := Nat.mul_lt_mul'' h1 h2
  rw [← Nat.pow_add] at h3
  have h4 : D4 ^ (i + j) * 1 ≤ D4 ^ (i + j) * c := Nat.mul_le_mul_left _ hc
  have h5 : D4 ^ (i + j) < D4 ^ (i + 1 + ys.length) := by omega
  have := (Nat.pow_lt_pow_iff_right (show 1 < D4 by decide)).1 h5
  omega
theorem at_madeI (w : World) (n : Nat) : At .i64 (w.alloc (.cells (madeCells #[Value.int .i64 0] n) 3)) w.heap.size 3 [] (List.replicate n 0) [] := by
  refine ⟨_, heap_alloc_new w _, ?_⟩
  rw [toList_madeCells_one, nums, List.map_replicate]
  simp

set_option maxRecDepth 100000 in
set_option maxHeartbeats 4000000 in
theorem rmul_any (A A' : Option Addr) (ca cb : Nat) (xs ys : List Nat) (w : World) (hx : Lim D4 xs) (hy : Lim D4 ys) (hxn : xs.length ≤ 1000000) (hyn : ys.length ≤ 1000000) (hra : Rd .i64 w A xs) (hrb : Rd .i64 w A' ys) :
    Calls Try.prog 43 #[.slice A xs.length ca, .slice A' ys.length cb] w (Makes .i64 3 w (dig D4 (vl D4 xs * vl D4 ys))) := by
  obtain ⟨i0, hi, hz0, hz1, hz2⟩ := info_parts info_i64
  have hmk : ∀ W : World, (Instr.makeSlice 63 (.int .i64 ((xs.length : Int) + (ys.length : Int) + 1)) (.int .i64 ((xs.length : Int) + (ys.length : Int) + 1))).run Try.prog W = .ok (.slice (some ⟨W.heap.size, 0, none⟩) (xs.length + ys.length + 1) (xs.length + ys.length + 1)) (W.alloc (.cells (madeCells (Value.int .i64 0).cells ((xs.length + ys.length + 1) * 1)) 3)) := fun W => by
    have := run_make (P := Try.prog) W 63 3 i0 (.int .i64 0) Try.underlying63 hi hz0 .i64 .i64 ((xs.length : Int) + (ys.length : Int) + 1) ((xs.length : Int) + (ys.length : Int) + 1) (by omega) (by omega) (by rw [hz2]; omega) (by omega)
    rw [hz1, show ((xs.length : Int) + (ys.length : Int) + 1).toNat = xs.length + ys.length + 1 by omega] at this
    exact this
  clear hi hz0 hz1 hz2
  go_enter Try.func43, Try.ntmps43
  go_wp2
  have fN := at_madeI w (xs.length + ys.length + 1)
  have hBa := (Below.refl w.heap.size w).alloc (Nat.le_refl _) (.cells (madeCells #[Value.int .i64 0] (xs.length + ys.length + 1)) 3)
  obtain ⟨g, hg⟩ : ∃ g, w.heap.size = g := ⟨_, rfl⟩
  have hgB : w.heap.size ≤ g := by omega
  rw [hg] at fN
  rw [hg]
  have HG := Lib.hid hg
  clear hg
  go_loopw [6] (fun i wr => ∃ (k : Nat) (cur : List Nat), k ≤ xs.length ∧ i = .int .i64 k ∧ At .i64 wr g 3 [] cur [] ∧ cur.length = xs.length + ys.length + 1 ∧ Lim D4 cur ∧ vl D4 cur = vl D4 (xs.take k) * vl D4 ys ∧ Below w.heap.size w wr) (fun i _ => xs.length - (RowKit.intOf i).toNat)
  case atStart => exact ⟨0, _, Nat.zero_le _, rfl, fN, List.length_replicate, lim_zeros (by decide) _, by rw [vl_zeros]; simp [vl], hBa⟩
  case round =>
    clear fN hBa
    obtain ⟨k, cur, hk, rfl, fA, hlen, hL, hv, hB⟩ := hrel
    have HLEN := Lib.hid hlen
    have HV := Lib.hid hv
    clear hlen hv
    by_cases hlt : k < xs.length
    · obtain ⟨ga, oa, rfl, hca⟩ := hra k hlt
      obtain ⟨x, hxe, hxk⟩ := lim4 hx k hlt
      rw [hxe] at hca
      have HXE := Lib.hid hxe
      have hgab := World.block_lt_of_cell? w _ hca
      clear hxe
      go_wp2
      obtain ⟨wo, rfl⟩ : ∃ wo : World, wo = wr := ⟨wr, rfl⟩
      go_loopw [7, 8] (fun c j wi => ∃ (m z : Nat) (cur' : List Nat), j = .int .i64 m ∧ c = .int .i64 z ∧ At .i64 wi g 3 [] cur' [] ∧ RMul cur cur' k m z x ys ∧ (m ≤ ys.length ∨ z = 0) ∧ m ≤ ys.length + 1 ∧ Below w.heap.size w wi) (fun _ j _ => ys.length + 1 - (RowKit.intOf j).toNat)
      case atStart => exact ⟨0, 0, cur, rfl, rfl, fA, rmul_start hL k x ys, .inl (Nat.zero_le _), by omega, hB⟩
      case round =>
        clear fA hB
        obtain ⟨m, z, cur', rfl, rfl, fA, hM, hmz, hmb, hB⟩ := hrel
        have hzb : z < 10000 := hM.hc
        have hlc : cur'.length = xs.length + ys.length + 1 := by rw [hM.len, HLEN.out]
        by_cases hgo : m < ys.length ∨ 0 < z
        · have hml : m ≤ ys.length := by omega
          have hkm : k + m < cur'.length := by omega
          obtain ⟨d, hde, hdk⟩ := lim4 hM.lim (k + m) hkm
          have hcd := fA.cell (o := 0) rfl (k + m) hkm
          rw [Nat.zero_add, hde] at hcd
          have hfz := fA.frozen (k + m)
          have hkml : (k : Int) + (m : Int) < (xs.length : Int) + (ys.length : Int) + 1 := by omega
          have hcw : wr.cell? ⟨ga, oa + k, none⟩ = some (.int .i64 (x : Nat)) := (hB.cell hgab).trans hca
          by_cases hmt : m < ys.length
          · obtain ⟨gb, ob, rfl, hcb⟩ := (hrb.below hB) m hmt
            obtain ⟨y, hye, hyk⟩ := lim4 hy m hmt
            rw [hye] at hcb
            have hpb : x * y ≤ 9999 * 9999 := Nat.mul_le_mul (by omega) (by omega)
            obtain ⟨p, hp⟩ : ∃ p, x * y = p := ⟨_, rfl⟩
            have hpi : (x : Int) * (y : Int) = (p : Int) := by rw [← hp]; exact (Int.natCast_mul _ _).symm
            rw [hp] at hpb
            have hS := rmul_step hM hxk hy hkm (z + d + p) (by rw [getD_of hmt, hye, hde, hp])
            have hA1 := fA.set (o := 0) rfl (k + m) ((z + d + p) % 10000) hkm
            rw [Nat.zero_add] at hA1
            have HS := Lib.hid hS
            have hx1 : (k : Int) < (xs.length : Int) := by omega
            have hy1 : (m : Int) < (ys.length : Int) := by omega
            clear hye hde hp hS hM hlc hkm hmz hgo
            obtain ⟨S, hSe⟩ : ∃ S, z + d + p = S := ⟨_, rfl⟩
            rw [hSe] at HS hA1
            have hSi : (z : Int) + (d : Int) + (p : Int) = (S : Int) := by omega
            have hSb : S ≤ 100000000 := by omega
            have hw1 : IntKind.i64.wrap (p : Int) = (p : Int) := IntWalk.i64_in _ (by omega)
            have hw2 : IntKind.i64.wrap (S : Int) = (S : Int) := IntWalk.i64_in _ (by omega)
            have HA1 := Lib.hid hA1
            clear hA1 hSe
            go_wp2
            go_quiet (fail)
            clear hw1 hw2
            go_wp2
            clear hpi hSi
            go_roundw
            case rel => exact ⟨m + 1, S / 10000, _, by go_num, vint (by omega), HA1.out, HS.out, by omega, by omega, (below_drewN' hB _).setCell hgB _⟩
            case measure => simp [RowKit.intOf]; omega
          · have hzp : 0 < z := by omega
            have hS := rmul_step hM hxk hy hkm (z + d) (by rw [getD_no hmt, hde]; simp)
            have hA1 := fA.set (o := 0) rfl (k + m) ((z + d) % 10000) hkm
            rw [Nat.zero_add] at hA1
            have HS := Lib.hid hS
            have HA1 := Lib.hid hA1
            have hc2 : m + 1 ≤ ys.length ∨ (z + d) / 10000 = 0 := by
              rcases Nat.eq_zero_or_pos ((z + d) / 10000) with h | h
              · exact .inr h
              · have := rmul_carry hS HV.out hlt HXE.out hx hy (by omega) h
                omega
            clear hde hS hA1 hM hlc hkm hmz hgo
            go_wp2
            go_roundw
            case rel => exact ⟨m + 1, (z + d) / 10000, _, by go_num, vint (by omega), HA1.out, HS.out, hc2, by omega, hB.setCell hgB _⟩
            case measure => simp [RowKit.intOf]; omega
        · have hmy : ys.length ≤ m := by omega
          obtain rfl : z = 0 := by omega
          have hv2 : vl D4 cur' = vl D4 (xs.take (k + 1)) * vl D4 ys := by
            have e := hM.eq
            rw [vl_take_all hmy, Nat.mul_zero, Nat.add_zero, HV.out] at e
            rw [e, vl_take_succ D4 xs k hlt, HXE.out, Nat.add_mul, Nat.mul_assoc]
          have HV2 := Lib.hid hv2
          have HLC := Lib.hid hlc
          have hlim := hM.lim
          have hm1 : ¬ m < ys.length := by omega
          clear hv2 hlc hM hmz hgo
          go_wp2
          go_roundw
          case rel => exact ⟨k + 1, cur', hlt, by go_num, fA, HLC.out, hlim, HV2.out, hB⟩
          case measure => simp [RowKit.intOf]; omega
    · obtain rfl : k = xs.length := by omega
      have hO := own_of_at (B := w.heap.size) (cap := xs.length + ys.length + 1) fA hgB (by rw [HLEN.out]; rfl) (by unfold maxLen; omega)
      rw [HLEN.out] at hO
      have cT := rtrim_own _ _ cur wr hL (by rw [HLEN.out]; omega) hO
      have hv := HV.out
      rw [vl_take_all (Nat.le_refl _)] at hv
      rw [hv] at cT
      have CT := Lib.hid cT
      clear cT hO hv fA
      go_wp2_with fail
      refine CT.out.mono ?_
      rintro e w' ⟨⟨v', rfl, hO7⟩, rfl⟩
      have HO7 := Lib.hid hO7
      clear hO7 CT
      go_wp2
      go_ret
      exact ⟨_, rfl, HO7.out, hB⟩
end Go.Proofs.Ytelhbkfhalpniaa

namespace Go.Proofs.Ytelhbkfhalpniaa
open Go.RowKit Go.Lib

set_option maxRecDepth 100000 in
set_option maxHeartbeats 1000000 in
theorem rparts_yes (b : Nat) (w : World) (hb : b < 18446744073709551616) (h : mag b < 9218868437227405312) : Calls Try.prog 36 #[.float .f64 b] w fun e w' => e = .returned (.tuple #[.int .u64 (manF (mag b)), .int .i64 (expF (mag b)), .bool true]) ∧ w = w' := by
  have hr := run_f64bits b w
  have hm : (b : Int) % 9223372036854775808 = ((mag b : Nat) : Int) := by unfold mag; omega
  obtain ⟨m, hme⟩ : ∃ m, mag b = m := ⟨_, rfl⟩
  rw [hme] at h hm
  rw [hme]
  clear hme
  obtain ⟨y, hy⟩ : ∃ y, m / 4503599627370496 = y := ⟨_, rfl⟩
  have hy2 : y ≤ 2046 := by omega
  have hyd : (m : Int) / 4503599627370496 = (y : Int) := by omega
  have hyn : ((y : Int) == 2047) = false := by rw [beq_eq_false_iff_ne]; omega
  by_cases hs : m < 4503599627370496
  · have HM := Lib.hid (show ((manF m : Nat) : Int) = (m : Int) % 4503599627370496 by rw [manF, if_pos hs]; omega)
    have HE := Lib.hid (show expF m = -1074 by rw [expF, if_pos hs])
    have hy0 : ((y : Int) == 0) = true := by rw [beq_iff_eq]; omega
    clear hy hs
    go_enter Try.func36, Try.ntmps36
    go_wp2
    go_ret3
    exact ⟨by rw [HM.out, HE.out]; rfl, rfl⟩
  · have HM := Lib.hid (show ((manF m : Nat) : Int) = (m : Int) % 4503599627370496 + 4503599627370496 by rw [manF, if_neg hs]; omega)
    have HE := Lib.hid (show expF m = (y : Int) - 1075 by rw [expF, if_neg hs, hy]; omega)
    have hy0 : ((y : Int) == 0) = false := by rw [beq_eq_false_iff_ne]; omega
    clear hy hs
    go_enter Try.func36, Try.ntmps36
    go_wp2
    go_ret3
    exact ⟨by rw [HM.out, HE.out]; rfl, rfl⟩
theorem dlen_mul {a b k j : Nat} (ha : (dig D4 a).length ≤ k) (hb : (dig D4 b).length ≤ j) : (dig D4 (a * b)).length ≤ k + j := by
  rw [dig_len_le (by decide)] at ha hb ⊢
  rw [Nat.pow_add]
  exact Nat.mul_lt_mul'' ha hb
/-- The two sides that 'above' compares. -/
def abL (n : Nat) (x : Int) (r : Nat) : Nat := n * (10 ^ x.toNat * 2 ^ (-(expF r - 1)).toNat)
def abR (x : Int) (r : Nat) : Nat := (manF r * 2 + 1) * (10 ^ (-x).toNat * 2 ^ (expF r - 1).toNat)
set_option maxRecDepth 100000 in
set_option maxHeartbeats 4000000 in
theorem above_any (A : Option Addr) (ca n : Nat) (x : Int) (r : Nat) (w : World) (hx0 : -5000 ≤ x) (hx1 : x ≤ 5000) (hr : r < 9218868437227405312) (hnl : (dig D4 n).length ≤ 5000) (hra : Rd .i64 w A (dig D4 n)) :
    Calls Try.prog 51 #[.slice A (dig D4 n).length ca, .int .i64 x, .int .u64 r] w fun e w' => e = .returned (.int .i64 (cmpZ (abL n x r) (abR x r))) ∧ Below w.heap.size w w' := by
  have hmr : mag r = r := Nat.mod_eq_of_lt (by omega)
  have hf := fun W => run_f64from r W
  have c1 := fun W => rparts_yes r W (by omega) (by rw [hmr]; exact hr)
  rw [hmr] at c1
  have he := expF_bd hr
  have hml := manF_lt (r := r)
  unfold abL abR
  obtain ⟨m, hm⟩ : ∃ m, manF r = m := ⟨_, rfl⟩
  obtain ⟨E, hE⟩ : ∃ E, expF r = E := ⟨_, rfl⟩
  rw [hm, hE] at c1
  rw [hE] at he
  rw [hm] at hml
  rw [hm, hE]
  have k1 : max x 0 = ((x.toNat : Nat) : Int) := by omega
  have k2 : max (-(E - 1)) 0 = (((-(E - 1)).toNat : Nat) : Int) := by omega
  have k3 : max (-x) 0 = (((-x).toNat : Nat) : Int) := by omega
  have k4 : max (E - 1) 0 = (((E - 1).toNat : Nat) : Int) := by omega
  have b1 : x.toNat ≤ 5000 := by omega
  have b2 : (-(E - 1)).toNat ≤ 5000 := by omega
  have b3 : (-x).toNat ≤ 5000 := by omega
  have b4 : (E - 1).toNat ≤ 5000 := by omega
  generalize x.toNat = p10 at *
  generalize (-(E - 1)).toNat = q2 at *
  generalize (-x).toNat = q10 at *
  generalize (E - 1).toNat = p2 at *
  have cS := fun (W : World) => small_any m W (by omega)
  have cS2 := fun (W : World) => small_any 2 W (by omega)
  have cS1 := fun (W : World) => small_any 1 W (by omega)
  have l1 := dig4_powb (b := 10) (j := p10) (by omega) (by omega)
  have l2 := dig4_powb (b := 2) (j := q2) (by omega) (by omega)
  have l3 := dig4_powb (b := 10) (j := q10) (by omega) (by omega)
  have l4 := dig4_powb (b := 2) (j := p2) (by omega) (by omega)
  have ln : ∀ z, z < 10000000000000000000000000000000000000000 → (dig D4 z).length ≤ 16 := fun z hz => (dig_len_le (by decide) z 16).2 (Nat.lt_trans hz (by decide))
  have cM := fun (A1 A2 : Option Addr) (c1 c2 a b : Nat) (W : World) (h1 : (dig D4 a).length ≤ 30000) (h2 : (dig D4 b).length ≤ 30000) (hr1 : Rd .i64 W A1 (dig D4 a)) (hr2 : Rd .i64 W A2 (dig D4 b)) => rmul_any A1 A2 c1 c2 (dig D4 a) (dig D4 b) W (lim4p _) (lim4p _) (by omega) (by omega) hr1 hr2
  simp only [dig_vl (show 2 ≤ D4 by decide)] at cM
  have cA := fun (A1 A2 : Option Addr) (c1 c2 a b : Nat) (W : World) (h1 : (dig D4 a).length ≤ 30000) (h2 : (dig D4 b).length ≤ 30000) (hr1 : Rd .i64 W A1 (dig D4 a)) (hr2 : Rd .i64 W A2 (dig D4 b)) => radd_any A1 A2 c1 c2 (dig D4 a) (dig D4 b) W (lim4p _) (lim4p _) (by omega) (by omega) hr1 hr2
  simp only [dig_vl (show 2 ≤ D4 by decide)] at cA
  have cC := fun (A1 A2 : Option Addr) (c1 c2 a b : Nat) (W : World) (h1 : (dig D4 a).length ≤ 30000) (h2 : (dig D4 b).length ≤ 30000) (hr1 : Rd .i64 W A1 (dig D4 a)) (hr2 : Rd .i64 W A2 (dig D4 b)) => rcmp_any A1 A2 c1 c2 (dig D4 a) (dig D4 b) W (dig_norm (by decide) _) (dig_norm (by decide) _) (by omega) (by omega) hr1 hr2
  simp only [dig_vl (show 2 ≤ D4 by decide)] at cC
  have CP := Lib.hid c1
  have CS := Lib.hid cS
  have CS2 := Lib.hid cS2
  have CS1 := Lib.hid cS1
  have CM := Lib.hid cM
  have CA := Lib.hid cA
  have CC := Lib.hid cC
  have CPa := Lib.hid (fun W => rpow_b10 p10 W (by omega))
  have CPb := Lib.hid (fun W => rpow_b2 q2 W (by omega))
  have CPc := Lib.hid (fun W => rpow_b10 q10 W (by omega))
  have CPd := Lib.hid (fun W => rpow_b2 p2 W (by omega))
  have m1 : (dig D4 m).length ≤ 16 := ln _ (by omega)
  have m2 : (dig D4 (m * 2)).length ≤ 16 := ln _ (by omega)
  have m3 : (dig D4 (m * 2 + 1)).length ≤ 16 := ln _ (by omega)
  have m4 : (dig D4 2).length ≤ 16 := ln _ (by omega)
  have m5 : (dig D4 1).length ≤ 16 := ln _ (by omega)
  have m6 := dlen_mul l1 l2
  have m7 := dlen_mul l3 l4
  have m8 := dlen_mul hnl m6
  have m9 := dlen_mul m3 m7
  have HA := Lib.hid hra
  have hB := Below.refl w.heap.size w
  clear c1 cS cS2 cS1 cM cA cC hm hE hmr ln hra
  go_enter Try.func51, Try.ntmps51
  go_wp2_with fail
  refine (CP.out _).mono ?_
  rintro e w' ⟨rfl, rfl⟩
  go_wp2_with fail
  refine (CS.out _).mono ?_
  rintro e w1 ⟨v, rfl, o, nb⟩
  obtain ⟨A1, d1, rfl, _⟩ := o.slice_
  have HA := Lib.hid (HA.out.below nb)
  have Q1 : Hid (Rd .i64 w1 A1 (dig D4 m)) := o.rd
  have hB := hB.trans (nb.mono hB.size)
  clear o nb
  go_wp2_with fail
  refine (CS2.out _).mono ?_
  rintro e w2 ⟨v, rfl, o, nb⟩
  obtain ⟨A2, d2, rfl, _⟩ := o.slice_
  have HA := Lib.hid (HA.out.below nb)
  have Q1 := Lib.hid (Q1.out.below nb)
  have Q2 : Hid (Rd .i64 w2 A2 (dig D4 2)) := o.rd
  have hB := hB.trans (nb.mono hB.size)
  clear o nb
  go_wp2_with fail
  refine (CM.out A1 A2 d1 d2 m 2 _ (by omega) (by omega) Q1.out Q2.out).mono ?_
  rintro e w3 ⟨v, rfl, o, nb⟩
  obtain ⟨A3, d3, rfl, _⟩ := o.slice_
  have HA := Lib.hid (HA.out.below nb)
  have Q1 := Lib.hid (Q1.out.below nb)
  have Q2 := Lib.hid (Q2.out.below nb)
  have Q3 : Hid (Rd .i64 w3 A3 (dig D4 (m * 2))) := o.rd
  have hB := hB.trans (nb.mono hB.size)
  clear o nb
  clear Q1 Q2
  go_wp2_with fail
  refine (CS1.out _).mono ?_
  rintro e w4 ⟨v, rfl, o, nb⟩
  obtain ⟨A4, d4, rfl, _⟩ := o.slice_
  have HA := Lib.hid (HA.out.below nb)
  have Q3 := Lib.hid (Q3.out.below nb)
  have Q4 : Hid (Rd .i64 w4 A4 (dig D4 1)) := o.rd
  have hB := hB.trans (nb.mono hB.size)
  clear o nb
  go_wp2_with fail
  refine (CA.out A3 A4 d3 d4 (m * 2) 1 _ (by omega) (by omega) Q3.out Q4.out).mono ?_
  rintro e w5 ⟨v, rfl, o, nb⟩
  obtain ⟨A5, d5, rfl, _⟩ := o.slice_
  have HA := Lib.hid (HA.out.below nb)
  have Q3 := Lib.hid (Q3.out.below nb)
  have Q4 := Lib.hid (Q4.out.below nb)
  have Q5 : Hid (Rd .i64 w5 A5 (dig D4 (m * 2 + 1))) := o.rd
  have hB := hB.trans (nb.mono hB.size)
  clear o nb
  clear Q3 Q4
  go_wp2_with fail
  refine (CPa.out _).mono ?_
  rintro e w6 ⟨v, rfl, o, nb⟩
  obtain ⟨A6, d6, rfl, _⟩ := o.slice_
  have HA := Lib.hid (HA.out.below nb)
  have Q5 := Lib.hid (Q5.out.below nb)
  have Q6 : Hid (Rd .i64 w6 A6 (dig D4 (10 ^ p10))) := o.rd
  have hB := hB.trans (nb.mono hB.size)
  clear o nb
  go_wp2_with fail
  refine (CPb.out _).mono ?_
  rintro e w7 ⟨v, rfl, o, nb⟩
  obtain ⟨A7, d7, rfl, _⟩ := o.slice_
  have HA := Lib.hid (HA.out.below nb)
  have Q5 := Lib.hid (Q5.out.below nb)
  have Q6 := Lib.hid (Q6.out.below nb)
  have Q7 : Hid (Rd .i64 w7 A7 (dig D4 (2 ^ q2))) := o.rd
  have hB := hB.trans (nb.mono hB.size)
  clear o nb
  go_wp2_with fail
  refine (CM.out A6 A7 d6 d7 _ _ _ (by omega) (by omega) Q6.out Q7.out).mono ?_
  rintro e w8 ⟨v, rfl, o, nb⟩
  obtain ⟨A8, d8, rfl, _⟩ := o.slice_
  have HA := Lib.hid (HA.out.below nb)
  have Q5 := Lib.hid (Q5.out.below nb)
  have Q6 := Lib.hid (Q6.out.below nb)
  have Q7 := Lib.hid (Q7.out.below nb)
  have Q8 : Hid (Rd .i64 w8 A8 (dig D4 (10 ^ p10 * 2 ^ q2))) := o.rd
  have hB := hB.trans (nb.mono hB.size)
  clear o nb
  clear Q6 Q7
  go_wp2_with fail
  refine (CM.out A A8 ca d8 _ _ _ (by omega) (by omega) HA.out Q8.out).mono ?_
  rintro e w9 ⟨v, rfl, o, nb⟩
  obtain ⟨A9, d9, rfl, _⟩ := o.slice_
  have HA := Lib.hid (HA.out.below nb)
  have Q5 := Lib.hid (Q5.out.below nb)
  have Q8 := Lib.hid (Q8.out.below nb)
  have Q9 : Hid (Rd .i64 w9 A9 (dig D4 (n * (10 ^ p10 * 2 ^ q2)))) := o.rd
  have hB := hB.trans (nb.mono hB.size)
  clear o nb
  clear Q8
  go_wp2_with fail
  refine (CPc.out _).mono ?_
  rintro e w10 ⟨v, rfl, o, nb⟩
  obtain ⟨A10, d10, rfl, _⟩ := o.slice_
  have HA := Lib.hid (HA.out.below nb)
  have Q5 := Lib.hid (Q5.out.below nb)
  have Q9 := Lib.hid (Q9.out.below nb)
  have Q10 : Hid (Rd .i64 w10 A10 (dig D4 (10 ^ q10))) := o.rd
  have hB := hB.trans (nb.mono hB.size)
  clear o nb
  go_wp2_with fail
  refine (CPd.out _).mono ?_
  rintro e w11 ⟨v, rfl, o, nb⟩
  obtain ⟨A11, d11, rfl, _⟩ := o.slice_
  have HA := Lib.hid (HA.out.below nb)
  have Q5 := Lib.hid (Q5.out.below nb)
  have Q9 := Lib.hid (Q9.out.below nb)
  have Q10 := Lib.hid (Q10.out.below nb)
  have Q11 : Hid (Rd .i64 w11 A11 (dig D4 (2 ^ p2))) := o.rd
  have hB := hB.trans (nb.mono hB.size)
  clear o nb
  go_wp2_with fail
  refine (CM.out A10 A11 d10 d11 _ _ _ (by omega) (by omega) Q10.out Q11.out).mono ?_
  rintro e w12 ⟨v, rfl, o, nb⟩
  obtain ⟨A12, d12, rfl, _⟩ := o.slice_
  have HA := Lib.hid (HA.out.below nb)
  have Q5 := Lib.hid (Q5.out.below nb)
  have Q9 := Lib.hid (Q9.out.below nb)
  have Q10 := Lib.hid (Q10.out.below nb)
  have Q11 := Lib.hid (Q11.out.below nb)
  have Q12 : Hid (Rd .i64 w12 A12 (dig D4 (10 ^ q10 * 2 ^ p2))) := o.rd
  have hB := hB.trans (nb.mono hB.size)
  clear o nb
  clear Q10 Q11
  go_wp2_with fail
  refine (CM.out A5 A12 d5 d12 _ _ _ (by omega) (by omega) Q5.out Q12.out).mono ?_
  rintro e w13 ⟨v, rfl, o, nb⟩
  obtain ⟨A13, d13, rfl, _⟩ := o.slice_
  have HA := Lib.hid (HA.out.below nb)
  have Q5 := Lib.hid (Q5.out.below nb)
  have Q9 := Lib.hid (Q9.out.below nb)
  have Q12 := Lib.hid (Q12.out.below nb)
  have Q13 : Hid (Rd .i64 w13 A13 (dig D4 ((m * 2 + 1) * (10 ^ q10 * 2 ^ p2)))) := o.rd
  have hB := hB.trans (nb.mono hB.size)
  clear o nb
  go_wp2_with fail
  refine (CC.out A9 A13 d9 d13 _ _ _ (by omega) (by omega) Q9.out Q13.out).mono ?_
  rintro e w14 ⟨rfl, nd, hm⟩
  have hB : Below w.heap.size w w14 := by rw [hm]; exact below_drewN' hB nd
  clear hm
  go_wp2
  go_ret
  exact ⟨rfl, hB⟩
end Go.Proofs.Ytelhbkfhalpniaa

namespace Go.Proofs.Ytelhbkfhalpniaa
open Go.RowKit Go.Lib

/-- The definition's Text: the four digits of a piece. -/
def quad (x : Nat) : List Nat := [x / 1000, x / 100 % 10, x / 10 % 10, x % 10]
theorem quad_lim {x : Nat} (h : x < 10000) : Lim 10 (quad x) := by
  intro y hy
  simp [quad] at hy
  omega
/-- The digits so far, the highest first. -/
structure RTxt (xs ds : List Nat) (k : Nat) : Prop where
  len : ds.length = 4 * (xs.length - k)
  lim : Lim 10 ds
  eq : vl 10 ds.reverse = vl D4 (xs.drop k)
theorem rtxt_start (xs : List Nat) : RTxt xs [] xs.length := ⟨by simp, lim_nil _, by rw [List.drop_length]; rfl⟩
theorem rtxt_step {xs ds : List Nat} {k : Nat} (h : RTxt xs ds (k + 1)) (hk : k < xs.length) (hx : Lim D4 xs) : RTxt xs (ds ++ quad xs[k]) k := by
  have hb := lim_get hx k hk
  refine ⟨?_, lim_append.2 ⟨h.lim, quad_lim hb⟩, ?_⟩
  · rw [List.length_append, h.len]
    show _ + 4 = _
    omega
  · rw [drop_get xs k hk, vl_cons, ← h.eq, List.reverse_append]
    obtain ⟨x, hxe⟩ : ∃ x, xs[k] = x := ⟨_, rfl⟩
    rw [hxe] at hb ⊢
    show vl 10 ((x % 10) :: (x / 10 % 10) :: (x / 100 % 10) :: (x / 1000) :: ds.reverse) = x + 10000 * vl 10 ds.reverse
    simp only [vl_cons]
    omega
/-- The noughts ahead. -/
theorem dropWhile_at {ds : List Nat} {k : Nat} (hk : k < ds.length) (h0 : ∀ j (hj : j < ds.length), j < k → ds[j] = 0) (hne : ds[k] ≠ 0) : ds.dropWhile (· == 0) = ds.drop k := by
  induction k generalizing ds with
  | zero =>
    cases ds with
    | nil => simp at hk
    | cons x l =>
      rw [List.dropWhile_cons, if_neg (by simpa using hne), List.drop_zero]
  | succ k ih =>
    cases ds with
    | nil => simp at hk
    | cons x l =>
      have hx : x = 0 := h0 0 (by simp) (by omega)
      rw [List.dropWhile_cons, if_pos (by simpa using hx), List.drop_succ_cons]
      exact ih (by simpa using hk) (fun j hj h => h0 (j + 1) (by simpa using hj) (by omega)) hne
theorem vl_pos_ex {ds : List Nat} (h : ∀ j (hj : j < ds.length), ds[j] = 0) : vl 10 ds.reverse = 0 := by
  have : ds = List.replicate ds.length 0 := by
    apply List.ext_getElem
    · simp
    · intro i h1 h2; rw [List.getElem_replicate]; exact h i h1
  rw [this, List.reverse_replicate, vl_zeros]
theorem rtxt_end {xs ds : List Nat} {k : Nat} (h : RTxt xs ds 0) (hn : vl D4 xs ≠ 0) (hk : k < ds.length) (h0 : ∀ j (hj : j < ds.length), j < k → ds[j] = 0) (hne : ds[k] ≠ 0) : decs (vl D4 xs) = (ds.drop k).map db := by
  have e := h.eq
  rw [List.drop_zero] at e
  rw [← e, decs_pv (fun x hx => h.lim x (List.mem_reverse.1 hx)) (by rw [e]; exact hn), List.reverse_reverse, dropWhile_at hk h0 hne]
/-- The definition's Parse: pieces of four digits from the end. -/
structure RPar (l : List UInt8) (ds : List Nat) (m : Nat) : Prop where
  lim : Lim D4 ds
  eq : vl D4 ds = pv (l.drop m)
  pow : 0 < m → 10 ^ (l.length - m) = D4 ^ ds.length
theorem rpar_start (l : List UInt8) : RPar l [] l.length := ⟨lim_nil _, by rw [List.drop_length]; rfl, fun _ => by simp⟩
theorem pv_lt4 {l : List UInt8} (h : Dec l) (hl : l.length ≤ 4) : pv l < 10000 := by
  have h1 := pv_lt h
  have h2 : 10 ^ l.length ≤ 10 ^ 4 := Nat.pow_le_pow_right (by omega) hl
  exact Nat.lt_of_lt_of_le h1 h2
theorem drop_split {l : List UInt8} {m m' : Nat} (h : m' ≤ m) : l.drop m' = (l.drop m').take (m - m') ++ l.drop m := by
  have := (List.take_append_drop (m - m') (l.drop m')).symm
  rwa [List.drop_drop, show m' + (m - m') = m by omega] at this
theorem rpar_step {l : List UInt8} {ds : List Nat} {m m' : Nat} (h : RPar l ds m) (hd : Dec l) (hm0 : 0 < m) (hm : m ≤ l.length) (he : m' = m - 4) : RPar l (ds ++ [pv ((l.drop m').take (m - m'))]) m' := by
  have hp := h.pow hm0
  refine ⟨lim_append.2 ⟨h.lim, lim_one.2 (pv_lt4 (dec_take (dec_drop hd _) _) (by rw [List.length_take]; omega))⟩, ?_, ?_⟩
  · rw [vl_snoc, h.eq, ← hp, drop_split (show m' ≤ m by omega), pv_append, List.length_drop, Nat.mul_comm]
    have e : (((l.drop m').take (m - m') ++ l.drop m).take (m - m')) = (l.drop m').take (m - m') := by
      rw [List.take_append_of_le_length (by rw [List.length_take, List.length_drop]; omega), List.take_take, Nat.min_self]
    rw [e]
    omega
  · intro h0
    rw [List.length_append, List.length_singleton, Nat.pow_succ, ← hp, show l.length - m' = (l.length - m) + 4 by omega, Nat.pow_add]
theorem rpar_end {l : List UInt8} {ds : List Nat} (h : RPar l ds 0) : vl D4 ds = pv l := by
  have := h.eq
  rwa [List.drop_zero] at this

theorem cells_four (w : World) (a b c d : Value) (t : TypeId) : ∀ j u, [a, b, c, d][j]? = some u → (w.alloc (.cells #[a, b, c, d] t)).cell? ((⟨w.heap.size, 0, none⟩ : Addr).add j) = some u :=
  (World.ownsRow_lit (base := w.heap.size) (e := t) (size := 1) w #[a, b, c, d] 4 (Nat.le_refl _) (by decide) rfl).cells (g := w.heap.size) rfl
theorem quad_cells {x : Nat} {a b c d : Int} (ha : a = ((48 + x / 1000 : Nat) : Int)) (hb : b = ((48 + x / 100 % 10 : Nat) : Int)) (hc : c = ((48 + x / 10 % 10 : Nat) : Int)) (hd : d = ((48 + x % 10 : Nat) : Int)) :
    [Value.int .u8 a, .int .u8 b, .int .u8 c, .int .u8 d] = nums .u8 (d8 (quad x)) := by
  subst ha hb hc hd
  rfl
theorem d8_app (a b : List Nat) : d8 (a ++ b) = d8 a ++ d8 b := by simp [d8]
theorem Own.more {κ : IntKind} {w : World} {B : Nat} {t : TypeId} {v : Value} {xs ys : List Nat} {k m : Nat} {cs : List Value} (h : w.ownsRow B t 1 v (k + m) (nums κ xs ++ cs)) (hc : cs = nums κ ys) (hk : k = xs.length) (hm : m = ys.length) : Own κ w B t v (xs ++ ys) := by
  subst hc
  exact Own.append h hk hm
/-- 'string(out[k:])'. -/
theorem conv_from (W : World) (B g cap k : Nat) (ds : List Nat) (hl : Lim 10 ds) (hO : Own .u8 W B 5 (.slice (some ⟨g, 0, none⟩) ds.length cap) (d8 ds)) (hk : k ≤ ds.length) :
    (convert 61 9 (.slice (some ⟨g, k, none⟩) (ds.length - k) (cap - k))).run Try.prog W = .ok (.string ⟨((ds.drop k).map db).toArray⟩) W := by
  have e : ds.length - k = ((ds.drop k).map db).length := by simp
  rw [e]
  refine run_convert_bytes_back (P := Try.prog) W 61 9 5 ⟨g, k, none⟩ (cap - k) ((ds.drop k).map db) Try.underlying61 Try.underlying5 Try.underlying9 (fun j hj => ?_)
  rw [List.length_map, List.length_drop] at hj
  have hc := hO.cell (k + j) (by rw [d8_len]; omega)
  rw [Addr.add_lit, hc]
  have h1 : (d8 ds)[k + j]'(by rw [d8_len]; omega) = 48 + ds[k + j]'(by omega) := by simp [d8]
  have h2 : ((ds.drop k).map db)[j]'(by simp; omega) = db (ds[k + j]'(by omega)) := by simp
  rw [h1, h2, db_toNat (lim_get hl (k + j) (by omega))]

set_option maxRecDepth 100000 in
set_option maxHeartbeats 4000000 in
theorem rtext_any (A : Option Addr) (ca : Nat) (xs : List Nat) (w : World) (hx : Norm D4 xs) (hxn : xs.length ≤ 100000) (hra : Rd .i64 w A xs) :
    Calls Try.prog 42 #[.slice A xs.length ca] w fun e w' => e = .returned (.string ⟨(decs (vl D4 xs)).toArray⟩) ∧ Below w.heap.size w w' := by
  by_cases hx0 : xs = []
  · have hb : ((xs.length : Int) == 0) = true := by rw [hx0]; rfl
    have HD := Lib.hid (show decs (vl D4 xs) = [48] by rw [hx0]; rfl)
    clear hx0 hx hra
    go_enter Try.func42, Try.ntmps42
    go_wp2
    go_ret
    exact ⟨by rw [HD.out]; rfl, Below.refl _ _⟩
  obtain ⟨i0, hi, hz0, hz1, hz2⟩ := info_parts info_u8
  have hlen := List.length_pos_iff.2 hx0
  have hb : ((xs.length : Int) == 0) = false := by rw [beq_eq_false_iff_ne]; omega
  have hpos := vl_top (B := D4) hx.2 hx0
  have hpp : 0 < D4 ^ (xs.length - 1) := Nat.pow_pos (by decide)
  have HNZ := Lib.hid (show vl D4 xs ≠ 0 by omega)
  have hL := hx.1
  clear hx hx0 hpos hpp
  go_enter Try.func42, Try.ntmps42
  go_wp2
  go_loopw [3, 4] (fun v i wr => ∃ (k : Nat) (ds : List Nat), k ≤ xs.length ∧ i = .int .i64 ((k : Int) - 1) ∧ Own .u8 wr w.heap.size 5 v (d8 ds) ∧ RTxt xs ds k ∧ Below w.heap.size w wr) (fun _ i _ => (RowKit.intOf i + 1).toNat)
  case atStart => exact ⟨xs.length, [], Nat.le_refl _, rfl, Own.nil _ _ _, rtxt_start xs, Below.refl _ _⟩
  case round =>
    obtain ⟨k, ds, hk, rfl, hO, hR, hB⟩ := hrel
    obtain ⟨A3, c3, rfl, hc3⟩ := hO.slice
    have hdl := hR.len
    rw [d8_len] at hO hc3 ⊢
    rcases k with _ | k
    · have hdp : 0 < ds.length := by omega
      obtain ⟨g, rfl, hg⟩ := hO.addr (by rw [d8_len]; exact hdp)
      have HR := Lib.hid hR
      have HO := Lib.hid hO
      have hlm := hR.lim
      have hdb4 : ds.length ≤ 400000 := by omega
      clear hR hO hdl
      go_wp2
      go_loop [6] (fun q => ∃ m : Nat, m < ds.length ∧ q = .int .i64 m ∧ ∀ j (hj : j < ds.length), j < m → ds[j] = 0) (fun q => ds.length - (RowKit.intOf q).toNat)
      case atStart => exact ⟨0, hdp, rfl, fun j _ h => absurd h (by omega)⟩
      case round =>
        obtain ⟨m, hm, rfl, h0⟩ := hrel
        obtain ⟨d, hde⟩ : ∃ d, ds[m] = d := ⟨_, rfl⟩
        have hd10 : d < 10 := by rw [← hde]; exact lim_get hlm m hm
        have hc := HO.out.cell m (by rw [d8_len]; exact hm)
        have he : (d8 ds)[m]'(by rw [d8_len]; exact hm) = 48 + d := by rw [← hde]; simp [d8]
        rw [he] at hc
        have HDE := Lib.hid hde
        have H0 := Lib.hid h0
        clear hde he h0
        by_cases hd0 : d = 0
        · subst hd0
          have hm1 : m + 1 < ds.length := by
            rcases Nat.lt_or_ge (m + 1) ds.length with h | h
            · exact h
            · have hz := vl_pos_ex (ds := ds) (fun j hj => by
                by_cases e : j = m
                · subst e; exact HDE.out
                · exact H0.out j hj (by omega))
              have e := HR.out.eq
              rw [List.drop_zero, hz] at e
              exact absurd e.symm HNZ.out
          go_wp2
          go_round
          case rel => exact ⟨m + 1, hm1, by go_num, fun j hj h => by
            by_cases e : j = m
            · subst e; exact HDE.out
            · exact H0.out j hj (by omega)⟩
          case measure => simp [RowKit.intOf]; omega
        · have hdb : (((48 + d : Nat) : Int) == 48) = false := by rw [beq_eq_false_iff_ne]; omega
          have hdb2 : (48 + (d : Int) == 48) = false := by rw [beq_eq_false_iff_ne]; omega
          have HE := Lib.hid (show decs (vl D4 xs) = List.drop m (List.map db ds) by rw [rtxt_end HR.out HNZ.out hm H0.out (by rw [HDE.out]; exact hd0), List.map_drop])
          have hcv := conv_from wr w.heap.size g c3 m ds hlm HO.out (by omega)
          have hcm : ¬ c3 = m := by omega
          clear HO
          go_wp2
          go_ret
          exact ⟨by rw [HE.out]; rfl, hB⟩
    · have hlx : k < xs.length := hk
      obtain ⟨g, o, rfl, hc⟩ := (hra.below hB) k hlx
      obtain ⟨x, hxe, hxk⟩ := lim4 hL k hlx
      rw [hxe] at hc
      have hS := rtxt_step hR hlx hL
      rw [hxe] at hS
      have HS := Lib.hid hS
      have hown := hO.row (n := ds.length) (d8_len ds)
      have hsz := hB.size
      have hdb : ds.length ≤ 400000 := by omega
      have hw1 : IntKind.u8.wrap (48 + (x : Int) / 1000) = 48 + (x : Int) / 1000 := IntWalk.u8_in _ (by omega)
      have hw2 : IntKind.u8.wrap (48 + (x : Int) / 100 % 10) = 48 + (x : Int) / 100 % 10 := IntWalk.u8_in _ (by omega)
      have hw3 : IntKind.u8.wrap (48 + (x : Int) / 10 % 10) = 48 + (x : Int) / 10 % 10 := IntWalk.u8_in _ (by omega)
      have hw4 : IntKind.u8.wrap (48 + (x : Int) % 10) = 48 + (x : Int) % 10 := IntWalk.u8_in _ (by omega)
      clear hR hO hS hxe hdl hc3
      rw [show ((k + 1 : Nat) : Int) - 1 = (k : Int) by omega]
      go_wp2_with (at_builtin; refine wpList_append_own _ rfl _ _ 61 rfl w.heap.size 5 i0 (.int .u8 0) 1 1 Try.underlying61 hi hz0 hz1 hz2 rfl (by decide) _ _ _ rfl (hown.alloc _) ⟨wr.heap.size, 0, none⟩ 4 4 _ rfl rfl (cells_four _ _ _ _ _ _) ?c2 ?c3 ?c4 ?c5 ?_)
      case c2 => simp [Value.oneCell']
      case c3 => unfold maxLen; omega
      case c4 => omega
      case c5 => first | omega | (simp; omega)
      intro v' w4 hown' hgrow _
      have hB4 : Below w.heap.size w w4 := (hB.alloc hsz _).grown hgrow (by simp; omega) (fun z e => (hown.lt z e).1)
      have hO4 := Own.more (ys := d8 (quad x)) hown' (quad_cells (by omega) (by omega) (by omega) (by omega)) (d8_len ds).symm rfl
      rw [← d8_app] at hO4
      have HO1 := Lib.hid hO4
      clear hown hown' hgrow hO4 hw1 hw2 hw3 hw4
      go_wp2
      go_roundw
      case rel => exact ⟨k, ds ++ quad x, by omega, rfl, HO1.out, HS.out, hB4⟩
      case measure => simp [RowKit.intOf]
end Go.Proofs.Ytelhbkfhalpniaa

namespace Go.Proofs.Ytelhbkfhalpniaa
open Go.RowKit Go.Lib

/-- Texts of digits of one length and one number are one text. -/
theorem pv_inj : ∀ {l m : List UInt8}, Dec l → Dec m → l.length = m.length → pv l = pv m → l = m
  | [], [], _, _, _, _ => rfl
  | c :: l, d :: m, hl, hm, hlen, hv => by
    have h1 := hl c (List.mem_cons_self ..)
    have h2 := hm d (List.mem_cons_self ..)
    have hl' : Dec l := fun x hx => hl x (List.mem_cons_of_mem _ hx)
    have hm' : Dec m := fun x hx => hm x (List.mem_cons_of_mem _ hx)
    have hlen' : l.length = m.length := by simpa using hlen
    rw [pv_cons, pv_cons, hlen'] at hv
    have b1 := pv_lt hl'
    have b2 := pv_lt hm'
    rw [hlen'] at b1
    have e := Nat.pow_pos (n := m.length) (show 0 < 10 by omega)
    have hcd : c.toNat - 48 = d.toNat - 48 := by
      have q1 : ((c.toNat - 48) * 10 ^ m.length + pv l) / 10 ^ m.length = c.toNat - 48 := by
        rw [Nat.mul_comm, Nat.mul_add_div e, Nat.div_eq_of_lt b1, Nat.add_zero]
      have q2 : ((d.toNat - 48) * 10 ^ m.length + pv m) / 10 ^ m.length = d.toNat - 48 := by
        rw [Nat.mul_comm, Nat.mul_add_div e, Nat.div_eq_of_lt b2, Nat.add_zero]
      rw [← q1, ← q2, hv]
    have : c = d := UInt8.toNat_inj.1 (by omega)
    subst this
    rw [pv_inj hl' hm' hlen' (by omega)]
theorem pv_split (l : List UInt8) (k : Nat) : pv l = pv (l.take k) * 10 ^ (l.drop k).length + pv (l.drop k) := by
  rw [← pv_append, List.take_append_drop]
theorem decs_pos_len (n : Nat) : 1 ≤ (decs n).length := by rw [← ahead_step, List.length_append]; simp
/-- A text without noughts ahead, but for the last digit, is its number's. -/
theorem decs_strip {l : List UInt8} {i : Nat} (hd : Dec l) (hi : i < l.length) (h0 : ∀ j, j < i → l[j]? = some 48) (h1 : i + 1 = l.length ∨ l[i] ≠ 48) : l.drop i = decs (pv l) := by
  have hv : pv l = pv (l.drop i) := by
    have ht : l.take i = List.replicate i 48 := by
      refine List.eq_replicate_iff.2 ⟨by rw [List.length_take]; omega, fun b hb => ?_⟩
      obtain ⟨j, hj, e⟩ := List.getElem_of_mem hb
      rw [List.length_take] at hj
      rw [List.getElem_take] at e
      have := h0 j (by omega)
      rw [List.getElem?_eq_getElem (by omega)] at this
      rw [← e]
      exact Option.some.inj this
    rw [pv_split l i, ht, pv_zeros, Nat.zero_mul, Nat.zero_add]
  rw [hv]
  have hdd := dec_drop hd i
  have hlen : (l.drop i).length = l.length - i := List.length_drop
  refine pv_inj hdd (dec_decs _) ?_ (pv_decs _).symm
  have hlt := pv_lt hdd
  have h2 : (decs (pv (l.drop i))).length ≤ (l.drop i).length := (decs_le (by omega)).2 hlt
  rcases h1 with h1 | h1
  · have := decs_pos_len (pv (l.drop i)); omega
  · rcases Nat.lt_or_ge (decs (pv (l.drop i))).length (l.drop i).length with h3 | h3
    · exfalso
      have hpos := decs_pos_len (pv (l.drop i))
      have h4 := (decs_le (n := pv (l.drop i)) (k := (l.drop i).length - 1) (by omega)).1 (by omega)
      have he : l.drop i = l[i] :: l.drop (i + 1) := List.drop_eq_getElem_cons hi
      rw [he, pv_cons, List.length_cons, Nat.add_sub_cancel] at h4
      have hb := hd l[i] (List.getElem_mem hi)
      have : 1 ≤ l[i].toNat - 48 := by
        rcases Nat.eq_zero_or_pos (l[i].toNat - 48) with h5 | h5
        · exact absurd (UInt8.toNat_inj.1 (show l[i].toNat = (48 : UInt8).toNat by show _ = 48; omega)) h1
        · exact h5
      have h6 : 1 * 10 ^ (l.drop (i + 1)).length ≤ (l[i].toNat - 48) * 10 ^ (l.drop (i + 1)).length := Nat.mul_le_mul_right _ this
      omega
    · omega
end Go.Proofs.Ytelhbkfhalpniaa

namespace Go.Proofs.Ytelhbkfhalpniaa
open Go.RowKit Go.Lib

def slen : Value → Nat | .string s => s.size | _ => 0
/-- The digits ahead of the point, and those behind it. -/
def RDig (w : World) (N D : Nat) (e : Ending) (w' : World) : Prop :=
  ∃ (S1 S2 : ByteArray) (wn : Nat), e = .returned (.tuple #[.string S1, .string S2]) ∧ Hid (S1.data.toList = decs wn) ∧ Hid (Dec S2.data.toList) ∧ S1.size ≤ 3000 ∧ S2.size ≤ 1100 ∧ Hid ((wn * 10 ^ S2.size + pv S2.data.toList) * D = N * 10 ^ S2.size) ∧ Below w.heap.size w w'
theorem rtext_dec (A : Option Addr) (ca z : Nat) (w : World) (h : (dig D4 z).length ≤ 100000) (hra : Rd .i64 w A (dig D4 z)) :
    Calls Try.prog 42 #[.slice A (dig D4 z).length ca] w fun e w' => e = .returned (.string ⟨(decs z).toArray⟩) ∧ Below w.heap.size w w' := by
  have h := rtext_any A ca (dig D4 z) w (dig_norm (by decide) z) h hra
  rwa [dig_vl (by decide)] at h
theorem decs_bound {z k : Nat} (hk : 1 ≤ k) (h : z < 10 ^ k) : (decs z).length ≤ k := (decs_le hk).2 h
set_option maxRecDepth 100000 in
set_option maxHeartbeats 4000000 in
theorem rdigits_up (b : Nat) (q : Nat) (w : World) (hb : b < 18446744073709551616) (h : mag b < 9218868437227405312) (he : expF (mag b) = (q : Int)) :
    Calls Try.prog 37 #[.float .f64 b] w (RDig w (amN (mag b)) (amD (mag b))) := by
  have c1 := fun W => rparts_yes b W hb h
  have hq := (expF_bd h).2
  have hml := manF_lt (r := mag b)
  unfold amN amD
  rw [he] at c1 hq ⊢
  obtain ⟨m, hm⟩ : ∃ m, manF (mag b) = m := ⟨_, rfl⟩
  rw [hm] at c1 hml
  rw [hm, show ((q : Int)).toNat = q by omega, show (-(q : Int)).toNat = 0 by omega, Nat.pow_zero]
  have CP := Lib.hid c1
  have CS := Lib.hid (fun W => small_any m W (by omega))
  have CPw := Lib.hid (fun W => rpow_b2 q W (by omega))
  have l1 := dig4_powb (b := 2) (j := q) (by omega) (by omega)
  have l2 : (dig D4 m).length ≤ 16 := (dig_len_le (by decide) m 16).2 (Nat.lt_trans (show m < 10000000000000000000000000000000000000000 by omega) (by decide))
  have l3 := dlen_mul l2 l1
  have cM := fun (A1 A2 : Option Addr) (c1 c2 : Nat) (W : World) (hr1 : Rd .i64 W A1 (dig D4 m)) (hr2 : Rd .i64 W A2 (dig D4 (2 ^ q))) => rmul_any A1 A2 c1 c2 (dig D4 m) (dig D4 (2 ^ q)) W (lim4p _) (lim4p _) (by omega) (by omega) hr1 hr2
  simp only [dig_vl (show 2 ≤ D4 by decide)] at cM
  have CM := Lib.hid cM
  have CT := Lib.hid (fun (A : Option Addr) (ca : Nat) (W : World) (hr : Rd .i64 W A (dig D4 (m * 2 ^ q))) => rtext_dec A ca (m * 2 ^ q) W (by omega) hr)
  have hz : (decs (m * 2 ^ q)).length ≤ 3000 := Nat.le_trans (decs_bound (k := 16 + q) (by omega) (by
    rw [Nat.pow_add]
    exact Nat.mul_lt_mul_of_lt_of_le (by omega) (Nat.pow_le_pow_left (by omega) _) (Nat.pow_pos (by omega)))) (by omega)
  clear c1 cM hm he h
  go_enter Try.func37, Try.ntmps37
  go_wp2_with fail
  refine (CP.out _).mono ?_
  rintro e w' ⟨rfl, rfl⟩
  go_wp2_with fail
  refine (CS.out _).mono ?_
  rintro e w1 ⟨v, rfl, o, nb⟩
  obtain ⟨A1, d1, rfl, _⟩ := o.slice_
  have Q1 := Lib.hid o.rd
  have hB := nb
  clear o nb
  go_wp2_with fail
  refine (CPw.out _).mono ?_
  rintro e w2 ⟨v, rfl, o, nb⟩
  obtain ⟨A2, d2, rfl, _⟩ := o.slice_
  have Q1 := Lib.hid (Q1.out.below nb)
  have Q2 := Lib.hid o.rd
  have hB := hB.trans (nb.mono hB.size)
  clear o nb
  go_wp2_with fail
  refine (CM.out _ _ _ _ _ Q1.out Q2.out).mono ?_
  rintro e w3 ⟨v, rfl, o, nb⟩
  obtain ⟨A3, d3, rfl, _⟩ := o.slice_
  have Q3 := Lib.hid o.rd
  have hB := hB.trans (nb.mono hB.size)
  clear o nb Q1 Q2
  go_wp2_with fail
  refine (CT.out _ _ _ Q3.out).mono ?_
  rintro e w4 ⟨rfl, nb⟩
  have hB := hB.trans (nb.mono hB.size)
  clear nb
  go_wp2_with fail
  go_ret2
  refine ⟨⟨(decs (m * 2 ^ q)).toArray⟩, ⟨#[]⟩, m * 2 ^ q, rfl, Lib.hid rfl, Lib.hid (fun c hc => absurd hc (by simp)), by show (decs _).toArray.size ≤ _; rw [List.size_toArray]; exact hz, by decide, Lib.hid ?_, hB⟩
  show (m * 2 ^ q * 10 ^ 0 + 0) * 1 = m * 2 ^ q * 10 ^ 0
  omega
theorem rdig_fin {S : ByteArray} {i k q z m : Nat} {w w' : World} (hd : Dec S.data.toList) (hk : S.size = k + q) (hik : i < k) (h0 : ∀ j, j < i → S.data.toList[j]? = some 48) (h1 : i + 1 = k ∨ S.data.toList[i]? ≠ some 48) (hv : pv S.data.toList = z) (e10 : z * 2 ^ q = m * 10 ^ q) (hsz : S.size ≤ 2000) (hq : q ≤ 1100) (hB : Below w.heap.size w w') :
    RDig w m (2 ^ q) (.returned (.tuple #[.string (S.extract i k), .string (S.extract k S.size)])) w' := by
  have hlen : S.data.toList.length = k + q := by rw [ba_len]; exact hk
  have e1 : (S.extract i k).data.toList = (S.data.toList.take k).drop i := by rw [Lib.extract_data, List.drop_take]
  have e2 : (S.extract k S.size).data.toList = S.data.toList.drop k := by rw [Lib.extract_data, List.take_of_length_le (by rw [List.length_drop]; omega)]
  have hl2 : (S.extract k S.size).size = q := by rw [← ba_len, e2, List.length_drop]; omega
  have htk : (S.data.toList.take k).length = k := by rw [List.length_take]; omega
  refine ⟨_, _, pv (S.data.toList.take k), rfl, Lib.hid ?_, Lib.hid (by rw [e2]; exact dec_drop hd k), ?_, by omega, Lib.hid ?_, hB⟩
  · rw [e1]
    refine decs_strip (dec_take hd k) (by omega) (fun j hj => by rw [List.getElem?_take_of_lt (by omega)]; exact h0 j hj) ?_
    rcases h1 with h1 | h1
    · exact Or.inl (by omega)
    · refine Or.inr (fun e => h1 ?_)
      rw [List.getElem_take] at e
      rw [List.getElem?_eq_getElem (by omega), e]
  · rw [ByteArray.size_extract]; omega
  · rw [hl2, e2]
    have hsp := pv_split S.data.toList k
    rw [List.length_drop, hlen, Nat.add_sub_cancel_left, hv] at hsp
    rw [← hsp]
    exact e10
set_option maxRecDepth 100000 in
set_option maxHeartbeats 4000000 in
theorem rdigits_down (b : Nat) (q : Nat) (w : World) (hb : b < 18446744073709551616) (h : mag b < 9218868437227405312) (hq0 : 0 < q) (he : expF (mag b) = -(q : Int)) :
    Calls Try.prog 37 #[.float .f64 b] w (RDig w (amN (mag b)) (amD (mag b))) := by
  have c1 := fun W => rparts_yes b W hb h
  have hq := (expF_bd h).1
  have hml := manF_lt (r := mag b)
  unfold amN amD
  rw [he] at c1 hq ⊢
  obtain ⟨m, hm⟩ : ∃ m, manF (mag b) = m := ⟨_, rfl⟩
  rw [hm] at c1 hml
  rw [hm, show (-(q : Int)).toNat = 0 by omega, show (-(-(q : Int))).toNat = q by omega, Nat.pow_zero, Nat.mul_one]
  have CP := Lib.hid c1
  have CS := Lib.hid (fun W => small_any m W (by omega))
  have cW := fun W => rpow_b5 q W (by omega)
  have CPw := Lib.hid cW
  have l1 := dig4_powb (b := 5) (j := q) (by omega) (by omega)
  have l2 : (dig D4 m).length ≤ 16 := (dig_len_le (by decide) m 16).2 (Nat.lt_trans (show m < 10000000000000000000000000000000000000000 by omega) (by decide))
  have l3 := dlen_mul l2 l1
  have cM := fun (A1 A2 : Option Addr) (c1 c2 : Nat) (W : World) (hr1 : Rd .i64 W A1 (dig D4 m)) (hr2 : Rd .i64 W A2 (dig D4 (5 ^ q))) => rmul_any A1 A2 c1 c2 (dig D4 m) (dig D4 (5 ^ q)) W (lim4p _) (lim4p _) (by omega) (by omega) hr1 hr2
  simp only [dig_vl (show 2 ≤ D4 by decide)] at cM
  have CM := Lib.hid cM
  have hz : (decs (m * 5 ^ q)).length ≤ 16 + q := decs_bound (k := 16 + q) (by omega) (by
    rw [Nat.pow_add]
    exact Nat.mul_lt_mul_of_lt_of_le (by omega) (Nat.pow_le_pow_left (by omega) _) (Nat.pow_pos (by omega)))
  have cT := fun (A : Option Addr) (ca : Nat) (W : World) (hr : Rd .i64 W A (dig D4 (m * 5 ^ q))) => rtext_dec A ca (m * 5 ^ q) W (by omega) hr
  have e10 : m * 5 ^ q * 2 ^ q = m * 10 ^ q := by rw [Nat.mul_assoc, ← Nat.mul_pow]
  obtain ⟨z, hze⟩ : ∃ z, m * 5 ^ q = z := ⟨_, rfl⟩
  rw [hze] at cT cM hz e10 l3
  have CM := Lib.hid cM
  obtain ⟨T, hT⟩ : ∃ T : ByteArray, (⟨(decs z).toArray⟩ : ByteArray) = T := ⟨_, rfl⟩
  have hTl : T.data.toList = decs z := by rw [← hT]
  have hTs : T.size ≤ 16 + q := by rw [← ba_len, hTl]; exact hz
  have hT1 : 1 ≤ T.size := by rw [← ba_len, hTl]; exact decs_pos_len z
  rw [hT] at cT
  have CT := Lib.hid cT
  have HT := Lib.hid hTl
  have HE := Lib.hid e10
  have hkn : ¬ (0 : Int) ≤ -(q : Int) := by omega
  clear c1 cM hm he h cW cT hTl hT hze e10 hz
  go_enter Try.func37, Try.ntmps37
  go_wp2_with fail
  refine (CP.out _).mono ?_
  rintro e w' ⟨rfl, rfl⟩
  go_wp2_with fail
  refine (CS.out _).mono ?_
  rintro e w1 ⟨v, rfl, o, nb⟩
  obtain ⟨A1, d1, rfl, _⟩ := o.slice_
  have Q1 := Lib.hid o.rd
  have hB := nb
  clear o nb
  go_wp2_with fail
  refine (CPw.out _).mono ?_
  rintro e w2 ⟨v, rfl, o, nb⟩
  obtain ⟨A2, d2, rfl, _⟩ := o.slice_
  have Q1 := Lib.hid (Q1.out.below nb)
  have Q2 := Lib.hid o.rd
  have hB := hB.trans (nb.mono hB.size)
  clear o nb
  go_wp2_with fail
  refine (CM.out _ _ _ _ _ Q1.out Q2.out).mono ?_
  rintro e w3 ⟨v, rfl, o, nb⟩
  obtain ⟨A3, d3, rfl, _⟩ := o.slice_
  have Q3 := Lib.hid o.rd
  have hB := hB.trans (nb.mono hB.size)
  clear o nb Q1 Q2
  go_wp2_with fail
  refine (CT.out _ _ _ Q3.out).mono ?_
  rintro e w4 ⟨rfl, nb⟩
  have hB := hB.trans (nb.mono hB.size)
  clear nb Q3
  go_wp2_with fail
  go_loop [8] (fun sv => ∃ (S : ByteArray) (c : Nat), sv = .string S ∧ S.data.toList = List.replicate c 48 ++ decs z ∧ 1 ≤ S.size ∧ S.size ≤ 60 + q) (fun sv => 2000 - slen sv)
  case atStart => exact ⟨T, 0, rfl, by rw [HT.out]; rfl, hT1, by omega⟩
  case round =>
    obtain ⟨S, c, rfl, hS, hS1, hS2⟩ := hrel
    by_cases hle : S.size ≤ q
    · have HS := Lib.hid hS
      clear hS
      go_wp2_with fail
      go_round
      case rel => exact ⟨_, 30 + c, rfl, by
        rw [ByteArray.data_append, Array.toList_append, HS.out, ← List.append_assoc, ← List.replicate_append_replicate]
        rfl, by rw [ByteArray.size_append]; omega, by rw [ByteArray.size_append]; show 30 + S.size ≤ _; omega⟩
      case measure =>
        simp only [slen, ByteArray.size_append]
        show 2000 - (30 + S.size) < 2000 - S.size
        omega
    · have hgt : ¬ (S.size : Int) ≤ (q : Int) := by omega
      obtain ⟨k, hk⟩ : ∃ k, S.size = k + q := ⟨S.size - q, by omega⟩
      have hk1 : 1 ≤ k := by omega
      have hki : (S.size : Int) + -(q : Int) = (k : Int) := by omega
      have hkl : k ≤ S.size := by omega
      have hdS : Dec S.data.toList := by rw [hS]; exact dec_append.2 ⟨dec_noughts _, dec_decs _⟩
      have hvS : pv S.data.toList = z := by rw [hS, pv_noughts, pv_decs]
      have hbyte : ∀ j (hj : j < S.size), S.data.toList[j]? = some (S[j]'hj) := fun j hj => by
        rw [Array.getElem?_toList, Array.getElem?_eq_getElem hj]
        rfl
      have HD := Lib.hid hdS
      have HV := Lib.hid hvS
      have HBY := Lib.hid hbyte
      have HK := Lib.hid hk
      clear hS hdS hvS hbyte hk hle
      go_wp2_with fail
      go_loop [10] (fun iv => ∃ i : Nat, iv = .int .i64 (i : Int) ∧ i < k ∧ ∀ j, j < i → S.data.toList[j]? = some 48) (fun iv => k - (RowKit.intOf iv).toNat)
      case atStart => exact ⟨0, rfl, by omega, fun j hj => absurd hj (Nat.not_lt_zero j)⟩
      case round =>
        obtain ⟨i, rfl, hik, h0⟩ := hrel
        have H0 := Lib.hid h0
        clear h0
        by_cases hi1 : i + 1 < k
        · have his : i < S.size := by omega
          by_cases h48 : (S[i]'his).toNat = 48
          · have hb48 : (((S[i]'his).toNat : Int) == 48) = true := by rw [beq_iff_eq]; omega
            have H48 := Lib.hid h48
            clear h48
            go_wp2_with fail
            go_round
            case rel => exact ⟨i + 1, by go_num, by omega, fun j hj => by
              rcases Nat.lt_or_ge j i with h | h
              · exact H0.out j h
              · obtain rfl : j = i := by omega
                rw [HBY.out j his]
                exact congrArg some (UInt8.toNat_inj.1 H48.out)⟩
            case measure => simp [RowKit.intOf]; omega
          · have hb48 : (((S[i]'his).toNat : Int) == 48) = false := by rw [beq_eq_false_iff_ne]; omega
            have H48 := Lib.hid h48
            clear h48
            have g1 : (i : Int) ≤ (k : Int) := by omega
            have g2 : (k : Int) ≤ (S.size : Int) := by omega
            have g0 : (0 : Int) ≤ (i : Int) := by omega
            have g3 : (0 : Int) ≤ (k : Int) := by omega
            go_wp2_with fail
            go_quiet (fail)
            go_wp2
            go_ret2
            exact rdig_fin HD.out HK.out hik H0.out (Or.inr (fun e => H48.out (by rw [HBY.out i his] at e; rw [Option.some.inj e]; rfl))) HV.out HE.out (by omega) (by omega) (below_drewN hB _)
        · have hi2 : ¬ (i : Int) + 1 < (k : Int) := by omega
          have g1 : (i : Int) ≤ (k : Int) := by omega
          have g2 : (k : Int) ≤ (S.size : Int) := by omega
          have g0 : (0 : Int) ≤ (i : Int) := by omega
          have g3 : (0 : Int) ≤ (k : Int) := by omega
          go_wp2_with fail
          go_quiet (fail)
          go_wp2
          go_ret2
          exact rdig_fin HD.out HK.out hik H0.out (Or.inl (by omega)) HV.out HE.out (by omega) (by omega) (below_drewN hB _)
theorem rdigits_any (b : Nat) (w : World) (hb : b < 18446744073709551616) (h : mag b < 9218868437227405312) :
    Calls Try.prog 37 #[.float .f64 b] w (RDig w (amN (mag b)) (amD (mag b))) := by
  by_cases he : 0 ≤ expF (mag b)
  · exact rdigits_up b (expF (mag b)).toNat w hb h (by omega)
  · exact rdigits_down b (-expF (mag b)).toNat w hb h (by omega) (by omega)
end Go.Proofs.Ytelhbkfhalpniaa

namespace Go.Proofs.Ytelhbkfhalpniaa

theorem mid_form {r : Nat} (h : r < 9218868437227405312) : ∃ A e, V r + V (r + 1) = A * 2 ^ e ∧ A < 18014398509481984 ∧ e ≤ 2045 := by
  have h1 := V_succ r
  unfold U at h1
  by_cases h2 : r < 4503599627370496
  · refine ⟨2 * r + 1, 0, ?_, by omega, by omega⟩
    rw [show r / 4503599627370496 - 1 = 0 by omega] at h1
    have h3 : V r = r := by unfold V; rw [if_pos h2]
    rw [h1, h3, Nat.pow_zero]
    omega
  · refine ⟨2 * (4503599627370496 + r % 4503599627370496) + 1, r / 4503599627370496 - 1, ?_, by omega, by omega⟩
    have h3 : V r = (4503599627370496 + r % 4503599627370496) * 2 ^ (r / 4503599627370496 - 1) := by unfold V; rw [if_neg h2]
    rw [h1, h3, ← Nat.add_assoc, ← Nat.add_mul, ← Nat.succ_mul]
    congr 1
    omega
def Z1024 : Nat := 2 ^ 1024
theorem big1 : Z1024 ≤ 10 ^ 768 := by decide +kernel
theorem big2 : 18014398509481984 * 5 ^ 1074 ≤ 10 ^ 768 := by decide +kernel
theorem big3 : 18014398509481984 * 2 ^ 2045 ≤ Z1024 * 2 ^ 1075 := by decide +kernel
/-- No middle of two floats lies strictly between two numbers of so many digits. -/
theorem no_mid {A e P : Nat} {y : Int} (c t : Nat) (hc : c = 1075) (ht : t = 768) (hA : A < 18014398509481984) (he : e ≤ 2045) (hP : 10 ^ t ≤ P) :
    A * 2 ^ e * 10 ^ (-y).toNat ≤ P * 10 ^ y.toNat * 2 ^ c ∨ (P + 1) * 10 ^ y.toNat * 2 ^ c ≤ A * 2 ^ e * 10 ^ (-y).toNat := by
  rcases Int.lt_or_le y 0 with hy | hy
  · rw [show y.toNat = 0 by omega, Nat.pow_zero, Nat.mul_one, Nat.mul_one]
    obtain ⟨J, hJ⟩ : ∃ J, (-y).toNat = J := ⟨_, rfl⟩
    rw [hJ, show (10 : Nat) = 5 * 2 from rfl, Nat.mul_pow]
    have e1 : A * 2 ^ e * (5 ^ J * 2 ^ J) = A * 5 ^ J * 2 ^ (e + J) := by rw [Nat.pow_add]; ac_rfl
    rw [e1]
    rcases Nat.lt_or_ge (e + J) c with h | h
    · left
      have b : A * 5 ^ J ≤ 10 ^ t := by
        refine Nat.le_trans (Nat.mul_le_mul (Nat.le_of_lt hA) (Nat.pow_le_pow_right (by omega) (show J ≤ 1074 by omega))) ?_
        rw [ht]
        exact big2
      exact Nat.mul_le_mul (Nat.le_trans b hP) (Nat.pow_le_pow_right (by omega) (by omega))
    · rw [show 2 ^ (e + J) = 2 ^ (e + J - c) * 2 ^ c by rw [← Nat.pow_add]; congr 1; omega, ← Nat.mul_assoc]
      rcases Nat.lt_or_ge P (A * 5 ^ J * 2 ^ (e + J - c)) with h2 | h2
      · right; exact Nat.mul_le_mul_right _ h2
      · left; exact Nat.mul_le_mul_right _ h2
  · left
    rw [show (-y).toNat = 0 by omega, Nat.pow_zero, Nat.mul_one]
    have b1 : A * 2 ^ e ≤ Z1024 * 2 ^ c := by
      refine Nat.le_trans (Nat.mul_le_mul (Nat.le_of_lt hA) (Nat.pow_le_pow_right (by omega) he)) ?_
      rw [hc]
      exact big3
    have b2 : Z1024 ≤ P := by
      refine Nat.le_trans ?_ hP
      rw [ht]
      exact big1
    exact Nat.le_trans b1 (Nat.mul_le_mul_right _ (Nat.le_trans b2 (Nat.le_mul_of_pos_right _ (Nat.pow_pos (by omega)))))
/-- Two numbers on the same side of every middle have the same nearest float. -/
theorem Near.move {X D X' D' r : Nat} (hM : ∀ q, q < 9218868437227405312 → ((V q + V (q + 1)) * D < X ∧ (V q + V (q + 1)) * D' < X') ∨ (X < (V q + V (q + 1)) * D ∧ X' < (V q + V (q + 1)) * D')) (h : Near X D r) : Near X' D' r := by
  have ht := h.top
  refine ⟨fun q e => ?_, fun q e g => ?_, fun k => ?_, fun k g => ?_, ht⟩
  · have a := h.lo q e
    subst e
    rcases hM q (by omega) with b | b <;> omega
  · have a := h.lo q e
    subst e
    rcases hM q (by omega) with b | b <;> omega
  · have a := h.hi k
    rcases hM r k with b | b <;> omega
  · have a := h.hi k
    rcases hM r k with b | b <;> omega
/-- Digits behind the kept ones: the value lies strictly between two neighbours. -/
theorem cut_in {P n k c : Nat} {y j : Int} (hj : j = y + k) (h1 : P * 10 ^ k < n) (h2 : n < (P + 1) * 10 ^ k) :
    P * 10 ^ j.toNat * 2 ^ c * 10 ^ (-y).toNat < n * 10 ^ y.toNat * 2 ^ c * 10 ^ (-j).toNat ∧ n * 10 ^ y.toNat * 2 ^ c * 10 ^ (-j).toNat < (P + 1) * 10 ^ j.toNat * 2 ^ c * 10 ^ (-y).toNat := by
  have e : 10 ^ j.toNat * 10 ^ (-y).toNat = 10 ^ k * (10 ^ y.toNat * 10 ^ (-j).toNat) := by
    rw [← Nat.pow_add, ← Nat.pow_add, ← Nat.pow_add]
    congr 1
    omega
  have e2 : ∀ Q, Q * 10 ^ j.toNat * 2 ^ c * 10 ^ (-y).toNat = Q * 10 ^ k * (10 ^ y.toNat * 10 ^ (-j).toNat * 2 ^ c) := fun Q => by
    calc Q * 10 ^ j.toNat * 2 ^ c * 10 ^ (-y).toNat = Q * 2 ^ c * (10 ^ j.toNat * 10 ^ (-y).toNat) := by ac_rfl
      _ = Q * 2 ^ c * (10 ^ k * (10 ^ y.toNat * 10 ^ (-j).toNat)) := by rw [e]
      _ = Q * 10 ^ k * (10 ^ y.toNat * 10 ^ (-j).toNat * 2 ^ c) := by ac_rfl
  have e3 : n * 10 ^ y.toNat * 2 ^ c * 10 ^ (-j).toNat = n * (10 ^ y.toNat * 10 ^ (-j).toNat * 2 ^ c) := by ac_rfl
  have p : 0 < 10 ^ y.toNat * 10 ^ (-j).toNat * 2 ^ c := Nat.mul_pos (Nat.mul_pos (Nat.pow_pos (by omega)) (Nat.pow_pos (by omega))) (Nat.pow_pos (by omega))
  rw [e2, e2, e3]
  exact ⟨Nat.mul_lt_mul_of_pos_right h1 p, Nat.mul_lt_mul_of_pos_right h2 p⟩
theorem side_lo {M a b L X : Nat} (h : M * a ≤ L) (h2 : L * b < X * a) : M * b < X := by
  have h3 : M * a * b ≤ L * b := Nat.mul_le_mul_right _ h
  rw [Nat.mul_right_comm] at h3
  exact Nat.lt_of_mul_lt_mul_right (Nat.lt_of_le_of_lt h3 h2)
theorem side_hi {M a b L X : Nat} (h : L ≤ M * a) (h2 : X * a < L * b) : X < M * b := by
  have h3 : L * b ≤ M * a * b := Nat.mul_le_mul_right _ h
  rw [Nat.mul_right_comm] at h3
  exact Nat.lt_of_mul_lt_mul_right (Nat.lt_of_lt_of_le h2 h3)
/-- Of two numbers with the same 769 digits ahead and something behind them the nearest floats are the same. -/
theorem near_cut {P n n' k k' r t : Nat} {y y' : Int} (ht : t = 768) (hP : 10 ^ t ≤ P) (hy : y + k = y' + k') (h1 : P * 10 ^ k < n) (h2 : n < (P + 1) * 10 ^ k) (h1' : P * 10 ^ k' < n') (h2' : n' < (P + 1) * 10 ^ k')
    (h : Near (2 * (n * 10 ^ y.toNat) * S1074) (10 ^ (-y).toNat) r) : Near (2 * (n' * 10 ^ y'.toNat) * S1074) (10 ^ (-y').toNat) r := by
  obtain ⟨c, hc⟩ : ∃ c : Nat, c = 1075 := ⟨_, rfl⟩
  have hS : 2 * S1074 = 2 ^ c := by rw [S_eq (c - 1) (by omega), ← Nat.pow_succ']; congr 1; omega
  have e1 : ∀ (m : Nat) (x : Int), 2 * (m * 10 ^ x.toNat) * S1074 = m * 10 ^ x.toNat * 2 ^ c := fun m x => by rw [← hS]; generalize S1074 = z; ac_rfl
  rw [e1] at h ⊢
  obtain ⟨j, hj⟩ : ∃ j : Int, j = y + k := ⟨_, rfl⟩
  have a := cut_in (c := c) hj h1 h2
  have a' := cut_in (c := c) (hj.trans hy) h1' h2'
  exact h.move fun q hq => by
    obtain ⟨A, e, hM, hA, he⟩ := mid_form hq
    rw [hM]
    rcases no_mid (y := j) c t hc ht hA he hP with b | b
    · exact Or.inl ⟨side_lo b a.1, side_lo b a'.1⟩
    · exact Or.inr ⟨side_hi b a.2, side_hi b a'.2⟩
/-- Of two fractions that are one number the nearest floats are the same. -/
theorem Near.conv {X D X' D' r : Nat} (hD : 0 < D) (e : X * D' = X' * D) (h : Near X D r) (hD' : 0 < D') : Near X' D' r := by
  have L : ∀ M, M * D ≤ X → M * D' ≤ X' := fun M g => by
    have g1 : M * D * D' ≤ X * D' := Nat.mul_le_mul_right _ g
    rw [e, Nat.mul_right_comm] at g1
    exact Nat.le_of_mul_le_mul_right g1 hD
  have R : ∀ M, X ≤ M * D → X' ≤ M * D' := fun M g => by
    have g1 : X * D' ≤ M * D * D' := Nat.mul_le_mul_right _ g
    rw [e, Nat.mul_right_comm] at g1
    exact Nat.le_of_mul_le_mul_right g1 hD
  have E : ∀ M, M * D' = X' → M * D = X := fun M g => by
    rw [← g, Nat.mul_right_comm] at e
    exact (Nat.eq_of_mul_eq_mul_right hD' e).symm
  exact ⟨fun q g => L _ (h.lo q g), fun q g k => h.loe q g (E _ k), fun g => R _ (h.hi g), fun g k => h.hie g (E _ k.symm).symm, h.top⟩
/-- Digits without a nought ahead make a great number. -/
theorem pv_ge {c : UInt8} {l : List UInt8} (hd : Dec (c :: l)) (h0 : c ≠ 48) : 10 ^ l.length ≤ pv (c :: l) := by
  rw [pv_cons]
  have h1 := hd c (by simp)
  have h2 : c.toNat ≠ 48 := fun e => h0 (UInt8.toNat_inj.1 e)
  exact Nat.le_trans (Nat.le_mul_of_pos_left _ (show 0 < c.toNat - 48 by omega)) (Nat.le_add_right _ _)
theorem trim_head {l : List UInt8} {c : UInt8} {t : List UInt8} (h : l.dropWhile (· == 48) = c :: t) : c ≠ 48 := by
  intro e
  have := List.head?_dropWhile_not (· == (48 : UInt8)) l
  rw [h] at this
  simp [e] at this
end Go.Proofs.Ytelhbkfhalpniaa

namespace Go.Proofs.Ytelhbkfhalpniaa
open Go.RowKit Go.Lib

theorem pv_zero_iff {l : List UInt8} (hd : Dec l) (h : l.dropWhile (· == 48) ≠ []) : 0 < pv l := by
  rw [← pv_trim]
  cases hl : l.dropWhile (· == 48) with
  | nil => exact absurd hl h
  | cons c t => exact Nat.lt_of_lt_of_le (Nat.pow_pos (by omega)) (pv_ge (by rw [← hl]; exact dec_trim hd) (trim_head hl))
end Go.Proofs.Ytelhbkfhalpniaa

namespace Go.Proofs.Ytelhbkfhalpniaa
open Go.RowKit Go.Lib

def hvl (l : List UInt8) : Nat := l.foldl (fun a c => a * 16 + hexR c.toNat) 0
end Go.Proofs.Ytelhbkfhalpniaa

namespace Go.Proofs.Ytelhbkfhalpniaa
open Go.RowKit Go.Lib

/-- What the definition's Parse answers. -/
noncomputable def rparRes (s : ByteArray) : List Nat := if isDec s = true then dig D4 (pv s.data.toList) else []
/-- How it ends. -/
def RParEnd (f : Bool) (zs : List Nat) (w : World) (e : Ending) (w' : World) : Prop := ∃ v, e = .returned (.tuple #[v, .bool f]) ∧ Own .i64 w' w.heap.size 3 v zs ∧ Below w.heap.size w w'
theorem pv_take_more {l : List UInt8} {m' j : Nat} (hj : j < l.length) (h : m' ≤ j) : pv ((l.drop m').take (j + 1 - m')) = pv ((l.drop m').take (j - m')) * 10 + ((l[j]).toNat - 48) := by
  have h1 : j - m' < (l.drop m').length := by rw [List.length_drop]; omega
  rw [show j + 1 - m' = (j - m') + 1 by omega, List.take_succ_eq_append_getElem h1, pv_snoc]
  have h2 : (l.drop m')[j - m'] = l[j] := by
    rw [List.getElem_drop]
    congr 1
    omega
  rw [h2]

set_option maxRecDepth 100000 in
set_option maxHeartbeats 4000000 in
theorem rparse_any (s : ByteArray) (w : World) (hs : s.size ≤ 4194304) :
    Calls Try.prog 50 #[.string s] w (RParEnd (isDec s) (rparRes s) w) := by
  by_cases h0 : s.size = 0
  · have HR := Lib.hid (show isDec s = false from isDec_no.2 (fun h => by omega))
    have he : s.toList = [] := by rw [Lib.toList_data]; exact ba_nil h0
    have he2 : s.toList.isEmpty = true := by rw [he]; rfl
    clear h0
    go_enter Try.func50, Try.ntmps50
    go_wp2
    go_ret2
    exact ⟨_, by rw [HR.out]; rfl, by rw [rparRes, if_neg (by rw [HR.out]; decide)]; exact Own.nil _ _ _, Below.refl _ _⟩
  obtain ⟨i0, hi, hz0, hz1, hz2⟩ := info_parts info_i64
  have he2 : s.toList.isEmpty = false := by
    rw [Lib.toList_data]
    cases h : s.data.toList with
    | nil => exact absurd (by rw [← ba_len, h]; rfl) h0
    | cons _ _ => rfl
  have he3 : ¬ s.toList = [] := by
    intro e; rw [e] at he2; cases he2
  have hpos : 0 < s.size := by omega
  clear h0
  go_enter Try.func50, Try.ntmps50
  go_wp2
  go_loop [4] (fun i => ∃ k : Nat, k ≤ s.size ∧ i = .int .i64 k ∧ Dec (s.data.toList.take k)) (fun i => s.size - (RowKit.intOf i).toNat)
  case atStart => exact ⟨0, Nat.zero_le _, rfl, fun _ h => by simp at h⟩
  case round =>
    obtain ⟨k, hk, rfl, hd⟩ := hrel
    by_cases hlt : k < s.size
    · by_cases h1 : s[k].toNat < 48
      · have HR := Lib.hid (show isDec s = false from isDec_no.2 (fun h => by have := (dec_at h.2 k hlt).1; omega))
        clear hd
        go_wp2
        go_ret2
        exact ⟨_, by rw [HR.out]; rfl, by rw [rparRes, if_neg (by rw [HR.out]; decide)]; exact Own.nil _ _ _, Below.refl _ _⟩
      · by_cases h2 : 57 < s[k].toNat
        · have HR := Lib.hid (show isDec s = false from isDec_no.2 (fun h => by have := (dec_at h.2 k hlt).2; omega))
          clear hd
          go_wp2
          go_ret2
          exact ⟨_, by rw [HR.out]; rfl, by rw [rparRes, if_neg (by rw [HR.out]; decide)]; exact Own.nil _ _ _, Below.refl _ _⟩
        · have hd2 := dec_snoc hd (show 48 ≤ s[k].toNat ∧ s[k].toNat ≤ 57 by omega)
          rw [← ba_take_snoc s k hlt] at hd2
          have HD := Lib.hid hd2
          clear hd hd2
          go_wp2
          go_round
          case rel => exact ⟨k + 1, hlt, by go_num, HD.out⟩
          case measure => simp [RowKit.intOf]; omega
    · obtain rfl : k = s.size := by omega
      rw [← ba_len, List.take_length] at hd
      have HR := Lib.hid (isDec_iff.2 ⟨hpos, hd⟩)
      have HDEC := Lib.hid hd
      clear hd he2 he3 hlt hk
      go_wp2
      go_loopw [5, 6] (fun v q wr => ∃ (m : Nat) (E : Int) (ds : List Nat), q = .int .i64 E ∧ ((0 < m ∧ E = m) ∨ (m = 0 ∧ -4 < E ∧ E ≤ 0)) ∧ m ≤ s.size ∧ ds.length ≤ s.size - m ∧ Own .i64 wr w.heap.size 3 v ds ∧ RPar s.data.toList ds m ∧ Below w.heap.size w wr) (fun _ q _ => (RowKit.intOf q).toNat)
      case atStart => exact ⟨s.size, _, [], rfl, .inl ⟨hpos, rfl⟩, Nat.le_refl _, Nat.zero_le _, Own.nil _ _ _, by have := rpar_start s.data.toList; rwa [ba_len] at this, Below.refl _ _⟩
      case round =>
        obtain ⟨m, E, ds, rfl, hE, hms, hdl, hO, hP, hB⟩ := hrel
        obtain ⟨A5, c5, rfl, _⟩ := hO.slice
        by_cases hm : 0 < m
        · obtain rfl : E = (m : Int) := by omega
          obtain ⟨m', hm'⟩ : ∃ m', m - 4 = m' := ⟨_, rfl⟩
          have hmx : max ((m : Int) - 4) 0 = (m' : Int) := by omega
          have hmi2 : (if (m : Int) - 4 < 0 then (0 : Int) else (m : Int) - 4) = (m' : Int) := by split <;> omega
          have hmi3 : (if (0 : Int) ≤ (m : Int) - 4 then (m : Int) - 4 else (0 : Int)) = (m' : Int) := by split <;> omega
          have hm4 : m' ≤ m := by omega
          have hm5 : m ≤ m' + 4 := by omega
          have HST := Lib.hid (rpar_step hP HDEC.out hm (by rw [ba_len]; exact hms) hm'.symm)
          have HM := Lib.hid hm'
          have hown := hO.row (n := ds.length) rfl
          have HOWN := Lib.hid hown
          have hsz := hB.size
          clear hP hO hE hm' hown
          go_wp2
          clear hmx hmi2 hmi3
          obtain ⟨wo, rfl⟩ : ∃ wo : World, wo = wr := ⟨wr, rfl⟩
          go_loop [7, 8] (fun a i => ∃ j : Nat, m' ≤ j ∧ j ≤ m ∧ i = .int .i64 j ∧ a = .int .i64 (pv ((s.data.toList.drop m').take (j - m')) : Nat)) (fun _ i => m - (RowKit.intOf i).toNat)
          case atStart => exact ⟨m', Nat.le_refl _, hm4, rfl, by rw [Nat.sub_self]; rfl⟩
          case round =>
            obtain ⟨j, hj1, hj2, rfl, rfl⟩ := hrel
            have hvl := pv_lt4 (dec_take (dec_drop HDEC.out m') (j - m')) (by rw [List.length_take]; omega)
            by_cases hjm : j < m
            · have hjs : j < s.size := by omega
              obtain ⟨c1, c2⟩ := dec_at HDEC.out j hjs
              have hmore := pv_take_more (l := s.data.toList) (by rw [ba_len]; exact hjs) hj1
              have hsj : s.data.toList[j]'(by rw [ba_len]; exact hjs) = s[j] := rfl
              rw [hsj] at hmore
              obtain ⟨V, hV⟩ : ∃ V, pv ((s.data.toList.drop m').take (j - m')) = V := ⟨_, rfl⟩
              rw [hV] at hvl hmore
              rw [hV]
              have HMORE := Lib.hid hmore
              clear hmore hV hsj
              go_wp2
              go_round
              case rel => exact ⟨j + 1, by omega, hjm, by go_num, by rw [HMORE.out]; exact vint (by omega)⟩
              case measure => simp [RowKit.intOf]; omega
            · obtain rfl : j = m := by omega
              obtain ⟨V, hV⟩ : ∃ V, pv ((s.data.toList.drop m').take (j - m')) = V := ⟨_, rfl⟩
              have hst := HST.out
              rw [hV] at hst hvl
              rw [hV]
              have HST2 := Lib.hid hst
              have hown := HOWN.out
              have hmm := HM.out
              have hmn : m' ≤ j - 1 := by omega
              have hE2 : ((0 < m' ∧ (j : Int) - 4 = m') ∨ (m' = 0 ∧ -4 < (j : Int) - 4 ∧ (j : Int) - 4 ≤ 0)) := by omega
              have HE2 := Lib.hid hE2
              clear hst hV hmm hE2 HST HOWN hj1 hj2 hjm
              go_wp2_with (at_builtin; refine wpList_append_own _ rfl _ _ 63 rfl w.heap.size 3 i0 (.int .i64 0) 1 8 Try.underlying63 hi hz0 hz1 hz2 rfl (by decide) _ _ _ rfl (hown.alloc _) ⟨wo.heap.size, 0, none⟩ 1 1 [.int .i64 (V : Nat)] rfl rfl (cell_one_new _ _ _) ?c2 ?c3 ?c4 ?c5 ?_)
              case c2 => simp [Value.oneCell']
              case c3 => unfold maxLen; omega
              case c4 => omega
              case c5 => first | omega | (simp; omega)
              intro v' w4 hown' hgrow _
              have hB4 : Below w.heap.size w w4 := (hB.alloc hsz _).grown hgrow (by simp; omega) (fun z e => (hown.lt z e).1)
              have HO1 := Lib.hid (Own.snoc hown' rfl)
              clear hown hown' hgrow
              go_wp2
              go_roundw
              case rel => exact ⟨m', _, _, rfl, HE2.out, by omega, by rw [List.length_append, List.length_singleton]; omega, HO1.out, HST2.out, hB4⟩
              case measure => simp [RowKit.intOf]; omega
        · obtain rfl : m = 0 := by omega
          have hE0 : E ≤ 0 := by omega
          have he := rpar_end hP
          have cT := rtrim_own _ _ ds wr hP.lim (by omega) hO
          rw [he] at cT
          have CT := Lib.hid cT
          clear cT hO hP he hE
          go_wp2_with fail
          refine CT.out.mono ?_
          rintro e w' ⟨⟨v', rfl, hO7⟩, rfl⟩
          have HO7 := Lib.hid hO7
          clear hO7 CT
          go_wp2
          go_ret2
          exact ⟨_, by rw [HR.out]; rfl, by rw [rparRes, if_pos HR.out]; exact HO7.out, hB⟩
end Go.Proofs.Ytelhbkfhalpniaa

namespace Go.Proofs.Ytelhbkfhalpniaa
open Go.RowKit Go.Lib

theorem cmpZ_scale {a b k : Nat} (hk : 0 < k) : cmpZ (a * k) (b * k) = cmpZ a b := by
  rcases Nat.lt_trichotomy a b with h | h | h
  · rw [cmpZ_lt h, cmpZ_lt (Nat.mul_lt_mul_of_pos_right h hk)]
  · subst h; rw [cmpZ_eq rfl, cmpZ_eq rfl]
  · rw [cmpZ_gt h, cmpZ_gt (Nat.mul_lt_mul_of_pos_right h hk)]
/-- The middle behind the float of rung q, times D. -/
def mid2 (D q : Nat) : Nat := (V q + V (q + 1)) * D
theorem mid2_lt {D q q' : Nat} (hD : 0 < D) (h : q < q') : mid2 D q < mid2 D q' := by
  unfold mid2
  refine Nat.mul_lt_mul_of_pos_right ?_ hD
  have h1 := V_lt h
  have h2 := V_lt (show q + 1 < q' + 1 by omega)
  omega
/-- What 'above' compares. -/
theorem above_mid (n r : Nat) (x : Int) (hr : r < 9218868437227405312) : cmpZ (abL n x r) (abR x r) = cmpZ (2 * (n * 10 ^ x.toNat) * S1074) (mid2 (10 ^ (-x).toNat) r) := by
  obtain ⟨c, hc⟩ : ∃ c : Nat, c = 1074 := ⟨_, rfl⟩
  have he := expF_bd hr
  obtain ⟨t, ht⟩ : ∃ t : Nat, t = 1075 - (-(expF r - 1)).toNat := ⟨_, rfl⟩
  rw [← cmpZ_scale (k := 2 ^ t) (Nat.pow_pos (by omega))]
  have e1 : abL n x r * 2 ^ t = 2 * (n * 10 ^ x.toNat) * S1074 := by
    rw [S_eq c hc]
    have e : 2 ^ (-(expF r - 1)).toNat * 2 ^ t = 2 * 2 ^ c := by
      rw [← Nat.pow_add, ← Nat.pow_succ', show (-(expF r - 1)).toNat + t = c.succ by omega]
    unfold abL
    calc n * (10 ^ x.toNat * 2 ^ (-(expF r - 1)).toNat) * 2 ^ t = n * 10 ^ x.toNat * (2 ^ (-(expF r - 1)).toNat * 2 ^ t) := by ac_rfl
      _ = n * 10 ^ x.toNat * (2 * 2 ^ c) := by rw [e]
      _ = 2 * (n * 10 ^ x.toNat) * 2 ^ c := by ac_rfl
  have e2 : abR x r * 2 ^ t = mid2 (10 ^ (-x).toNat) r := by
    unfold mid2
    rw [V_succ]
    have hU : U r = 2 ^ (expF r - -1074).toNat := by
      unfold U expF
      split
      · rw [show r / 4503599627370496 - 1 = 0 by omega, show ((-1074 : Int) - -1074).toNat = 0 by omega]
      · congr 1
        omega
    have hV : V r = manF r * U r := by rw [← val_V, Nat.shiftLeft_eq, hU]
    have e : 2 ^ (expF r - 1).toNat * 2 ^ t = U r := by
      rw [hU, ← Nat.pow_add]
      congr 1
      omega
    unfold abR
    rw [hV]
    generalize U r = u at *
    generalize manF r = m at *
    generalize 10 ^ (-x).toNat = D at *
    generalize 2 ^ (expF r - 1).toNat = z at *
    generalize 2 ^ t = y at *
    calc (m * 2 + 1) * (D * z) * y = (m * 2 + 1) * (z * y) * D := by ac_rfl
      _ = (m * 2 + 1) * u * D := by rw [e]
      _ = (m * u + (m * u + u)) * D := by
        congr 1
        rw [Nat.add_mul, Nat.mul_right_comm, Nat.one_mul]
        omega
  rw [e1, e2]
/-- Beyond the powers that the definition looks at. -/
theorem near_far_low {n c t : Nat} (hc : 1349 ≤ c) (ht : t = 1024) (hn : n < 10 ^ t) : Near (2 * n * S1074) (10 ^ c) 0 := by
  refine ⟨fun q e => absurd e (by omega), fun q e => absurd e (by omega), fun _ => ?_, fun _ _ => rfl, by omega⟩
  obtain ⟨f, hf⟩ : ∃ f : Nat, f = 1074 := ⟨_, rfl⟩
  rw [S_eq f hf, show V 0 + V (0 + 1) = 1 by decide, Nat.one_mul]
  have h4 := big325 325 (f + 1) rfl (by omega)
  have h5 : 10 ^ (t + 325) ≤ 10 ^ c := Nat.pow_le_pow_right (by omega) (by omega)
  refine Nat.le_trans ?_ h5
  rw [Nat.pow_add]
  have h7 : 2 * n * 2 ^ f ≤ 2 * 10 ^ t * 2 ^ f := Nat.mul_le_mul_right _ (by omega)
  have h9 : 2 * 10 ^ t * 2 ^ f = 10 ^ t * 2 ^ (f + 1) := by rw [Nat.pow_succ, Nat.mul_comm 2, Nat.mul_assoc, Nat.mul_comm 2]
  exact Nat.le_trans h7 (by rw [h9]; exact Nat.mul_le_mul_left _ h4)
theorem near_far_top {n c : Nat} (hn : 0 < n) (hc : 310 ≤ c) : Near (2 * (n * 10 ^ c) * S1074) 1 9218868437227405312 := by
  refine ⟨fun q hq => ?_, fun _ _ _ => rfl, fun h => absurd h (by omega), fun h => absurd h (by omega), Nat.le_refl _⟩
  obtain ⟨f, hf⟩ : ∃ f : Nat, f = 1074 := ⟨_, rfl⟩
  obtain ⟨d, hd⟩ : ∃ d : Nat, d = 1025 := ⟨_, rfl⟩
  obtain ⟨c0, hc0⟩ : ∃ c0 : Nat, c0 = 310 := ⟨_, rfl⟩
  have h4 := big310 c0 d hc0 hd
  have h5 := V_inf (d - 51 + f - 2) (by omega)
  have h6 : 4503599627370496 * 2 ^ (d - 51 + f - 2) = 2 ^ (d - 1) * 2 ^ f := by
    rw [show (4503599627370496 : Nat) = 2 ^ 52 by decide, ← Nat.pow_add, ← Nat.pow_add, show 52 + (d - 51 + f - 2) = d - 1 + f by omega]
  have h7 : 2 ^ d = 2 * 2 ^ (d - 1) := by rw [← Nat.pow_succ', show (d - 1).succ = d by omega]
  have h9 : 10 ^ c0 ≤ 10 ^ c := Nat.pow_le_pow_right (by omega) (by omega)
  have h8 : 2 * (1 * 2 ^ (d - 1)) * 2 ^ f ≤ 2 * (n * 10 ^ c) * 2 ^ f := Nat.mul_le_mul_right _ (Nat.mul_le_mul_left _ (Nat.mul_le_mul hn (by omega)))
  rw [Nat.one_mul, Nat.mul_assoc] at h8
  have h2 := V_lt (show q < 9218868437227405312 by omega)
  rw [S_eq f hf, Nat.mul_one]
  rw [h5, h6] at h2 ⊢
  generalize 2 ^ (d - 1) * 2 ^ f = z at *
  omega
def RRead (w : World) (X D : Nat) (e : Ending) (w' : World) : Prop := ∃ r, e = .returned (.tuple #[.float .f64 r, .int .i64 0]) ∧ Hid (Near X D r) ∧ Below w.heap.size w w'
set_option maxRecDepth 100000 in
set_option maxHeartbeats 2000000 in
theorem rread_far (s : ByteArray) (x : Int) (w : World) (hs : s.size ≤ 1024) (hd : isDec s = true) (hx : pv s.data.toList = 0 ∨ x < -1500 ∨ 400 < x) :
    Calls Try.prog 45 #[.string s, .int .i64 x] w (RRead w (2 * (pv s.data.toList * 10 ^ x.toNat) * S1074) (10 ^ (-x).toNat)) := by
  have cP := rparse_any s w (by omega)
  have hn := pv_lt (isDec_iff.1 hd).2
  rw [ba_len] at hn
  rw [rparRes, hd, if_pos rfl] at cP
  obtain ⟨n, hne⟩ : ∃ n, pv s.data.toList = n := ⟨_, rfl⟩
  rw [hne] at cP hn hx
  rw [hne]
  have CP := Lib.hid cP
  have hfi : ∀ W : World, (callFunc 12 #[.int .u64 9218868437227405312]).run Try.prog W = .ok (.value (.float .f64 9218868437227405312)) W := fun W => run_f64from 9218868437227405312 W
  by_cases h0 : n = 0
  · subst h0
    have hl : (((dig D4 0).length : Nat) : Int) = 0 := rfl
    clear cP hd hne hx
    go_enter Try.func45, Try.ntmps45
    go_wp2_with fail
    refine CP.out.mono ?_
    rintro e w1 ⟨v, rfl, o, nb⟩
    obtain ⟨A1, d1, rfl, _⟩ := o.slice_
    clear o
    go_wp2
    go_ret2
    refine ⟨0, rfl, Lib.hid ?_, nb⟩
    rw [Nat.zero_mul, Nat.mul_zero, Nat.zero_mul]
    exact near_zero (Nat.pow_pos (by omega))
  · have hlb : (((dig D4 n).length : Int) == 0) = false := by
      rw [beq_eq_false_iff_ne]
      intro e
      exact h0 (dig_nil (B := D4) (by decide) (List.eq_nil_of_length_eq_zero (by omega)))
    have HN := Lib.hid hn
    by_cases h1 : x < -1500
    · clear cP hd hne hx hn h0
      go_enter Try.func45, Try.ntmps45
      go_wp2_with fail
      refine CP.out.mono ?_
      rintro e w1 ⟨v, rfl, o, nb⟩
      obtain ⟨A1, d1, rfl, _⟩ := o.slice_
      clear o
      go_wp2
      go_ret2
      refine ⟨0, rfl, Lib.hid ?_, nb⟩
      rw [show x.toNat = 0 by omega, Nat.pow_zero, Nat.mul_one]
      obtain ⟨t, ht⟩ : ∃ t : Nat, t = 1024 := ⟨_, rfl⟩
      exact near_far_low (t := t) (by omega) ht (Nat.lt_of_lt_of_le HN.out (Nat.pow_le_pow_right (by omega) (by omega)))
    · have h2 : 400 < x := by omega
      have H0 := Lib.hid h0
      clear cP hd hne hx hn h0
      go_enter Try.func45, Try.ntmps45
      go_wp2_with fail
      refine CP.out.mono ?_
      rintro e w1 ⟨v, rfl, o, nb⟩
      obtain ⟨A1, d1, rfl, _⟩ := o.slice_
      clear o
      go_wp2
      go_ret2
      refine ⟨9218868437227405312, rfl, Lib.hid ?_, nb⟩
      rw [show (-x).toNat = 0 by omega, Nat.pow_zero]
      exact near_far_top (by have := H0.out; omega) (by omega)
end Go.Proofs.Ytelhbkfhalpniaa

namespace Go.Proofs.Ytelhbkfhalpniaa
open Go.RowKit Go.Lib

theorem near_first {X D r : Nat} (hr : r ≤ 9218868437227405312) (hlo : ∀ q, r = q + 1 → mid2 D q < X) (hhi : r < 9218868437227405312 → X ≤ mid2 D r) (hev : r < 9218868437227405312 → X = mid2 D r → r % 2 = 0) : Near X D r :=
  ⟨fun q hq => by subst hq; exact Nat.le_of_lt (hlo q rfl), fun q hq he => by subst hq; exact absurd he (Nat.ne_of_lt (hlo q rfl)), hhi, hev, hr⟩
theorem near_second {X D r : Nat} (hD : 0 < D) (hr : r < 9218868437227405312) (ho : r % 2 = 1) (he : X = mid2 D r) : Near X D (r + 1) := by
  have hm := mid2_lt hD (show r < r + 1 by omega)
  refine ⟨fun q hq => ?_, fun q hq _ => by omega, fun _ => by rw [he]; exact Nat.le_of_lt hm, fun _ h => absurd h (by rw [he]; exact Nat.ne_of_lt hm), by omega⟩
  obtain rfl : q = r := by omega
  rw [he]
  exact Nat.le_refl _
set_option maxRecDepth 100000 in
set_option maxHeartbeats 4000000 in
theorem rread_mid (s : ByteArray) (x : Int) (n X D : Nat) (w : World) (hs : s.size ≤ 1024) (hd : isDec s = true) (hn : pv s.data.toList = n) (h0 : n ≠ 0) (hx0 : -1500 ≤ x) (hx1 : x ≤ 400)
    (hX : 2 * (n * 10 ^ x.toNat) * S1074 = X) (hD : 10 ^ (-x).toNat = D) :
    Calls Try.prog 45 #[.string s, .int .i64 x] w (RRead w X D) := by
  have cP := rparse_any s w (by omega)
  have hnb := pv_lt (isDec_iff.1 hd).2
  rw [ba_len, hn] at hnb
  rw [rparRes, hd, if_pos rfl, hn] at cP
  have hl : (dig D4 n).length ≤ 1030 := by
    obtain ⟨c, hc⟩ : ∃ c : Nat, c = 1030 := ⟨_, rfl⟩
    rw [← hc]
    exact (dig_len_le (by decide) n c).2 (Nat.lt_of_lt_of_le hnb (Nat.le_trans (Nat.pow_le_pow_right (n := 10) (by omega) (show s.size ≤ c by omega)) (Nat.pow_le_pow_left (by decide) _)))
  have hlb : (((dig D4 n).length : Int) == 0) = false := by
    rw [beq_eq_false_iff_ne]
    intro e
    exact h0 (dig_nil (B := D4) (by decide) (List.eq_nil_of_length_eq_zero (by omega)))
  have hDp : 0 < D := by rw [← hD]; exact Nat.pow_pos (by omega)
  have cA := fun (A : Option Addr) (ca r : Nat) (W : World) (hr : r < 9218868437227405312) (hra : Rd .i64 W A (dig D4 n)) => above_any A ca n x r W (by omega) (by omega) hr (by omega) hra
  have hmid := fun (r : Nat) (hr : r < 9218868437227405312) => above_mid n r x hr
  rw [hX, hD] at hmid
  have cU : ∀ (A : Option Addr) (ca r : Nat) (W : World), r < 9218868437227405312 → Rd .i64 W A (dig D4 n) → Calls Try.prog 51 #[.slice A (dig D4 n).length ca, .int .i64 x, .int .u64 r] W fun e w' => e = .returned (.int .i64 (cmpZ X (mid2 D r))) ∧ Below W.heap.size W w' := fun A ca r W hr hra => by
    rw [← hmid r hr]; exact cA A ca r W hr hra
  have CP := Lib.hid cP
  have CU := Lib.hid cU
  have HD := Lib.hid hDp
  have hx2 : ¬ x < -1500 := by omega
  have hx3 : ¬ 400 < x := by omega
  have hfr := fun (r : Nat) (W : World) => run_f64from r W
  have HFR := Lib.hid hfr
  clear cP cA cU hmid hX hD hDp hn h0 hnb hd hfr
  go_enter Try.func45, Try.ntmps45
  go_wp2_with fail
  refine CP.out.mono ?_
  rintro e w1 ⟨v, rfl, o, nb⟩
  obtain ⟨A1, d1, rfl, _⟩ := o.slice_
  have HQ := Lib.hid o.rd
  have HB := Lib.hid nb
  have hw1 := nb.size
  clear o nb
  go_wp2_with fail
  go_loopw [8, 9] (fun lv hv wr => ∃ lo hi : Nat, lv = .int .u64 (lo : Int) ∧ hv = .int .u64 (hi : Int) ∧ lo ≤ hi ∧ hi ≤ 9218868437227405312 ∧ (∀ q, lo = q + 1 → mid2 D q < X) ∧ (hi < 9218868437227405312 → X ≤ mid2 D hi) ∧ Below w1.heap.size w1 wr) (fun lv hv _ => (RowKit.intOf hv - RowKit.intOf lv).toNat)
  case atStart => exact ⟨0, 9218868437227405312, rfl, rfl, by omega, by omega, fun q e => absurd e (by omega), fun h => absurd h (by omega), Below.refl _ _⟩
  case round =>
    obtain ⟨lo, hi, rfl, rfl, hlh, hhi, hlo, hup, hb⟩ := hrel
    have HLO := Lib.hid hlo
    have HUP := Lib.hid hup
    clear hlo hup
    by_cases hlt : lo < hi
    · obtain ⟨m, hm⟩ : ∃ m, (lo + hi) / 2 = m := ⟨_, rfl⟩
      have hmi : ((lo : Int) + (hi : Int)) / 2 = (m : Int) := by omega
      have hm1 : lo ≤ m := by omega
      have hm2 : m < hi := by omega
      clear hm
      rcases Nat.lt_or_ge (mid2 D m) X with hc | hc
      · have cz := CU.out A1 d1 m wr (by omega) (HQ.out.below hb)
        rw [cmpZ_gt hc] at cz
        have CZ := Lib.hid cz
        have HC := Lib.hid hc
        clear cz hc
        go_wp2_with fail
        refine CZ.out.mono ?_
        rintro e w2 ⟨rfl, nb⟩
        have hb2 := hb.trans (nb.mono hb.size)
        clear nb
        go_wp2_with fail
        go_roundw
        case rel => exact ⟨m + 1, hi, by go_num, rfl, by omega, hhi, fun q e => by
          obtain rfl : q = m := by omega
          exact HC.out, HUP.out, hb2⟩
        case measure => simp [RowKit.intOf]; omega
      · have cz := CU.out A1 d1 m wr (by omega) (HQ.out.below hb)
        have hz : cmpZ X (mid2 D m) ≤ 0 := by
          unfold cmpZ
          split
          · omega
          · split <;> omega
        obtain ⟨z, hze⟩ : ∃ z, cmpZ X (mid2 D m) = z := ⟨_, rfl⟩
        rw [hze] at cz hz
        have hzn : ¬ 0 < z := by omega
        have CZ := Lib.hid cz
        have HC := Lib.hid hc
        clear cz hc hze
        go_wp2_with fail
        refine CZ.out.mono ?_
        rintro e w2 ⟨rfl, nb⟩
        have hb2 := hb.trans (nb.mono hb.size)
        clear nb
        go_wp2_with fail
        go_roundw
        case rel => exact ⟨lo, m, rfl, rfl, by omega, by omega, HLO.out, fun _ => HC.out, hb2⟩
        case measure => simp [RowKit.intOf]; omega
    · obtain rfl : lo = hi := by omega
      have hB := HB.out.trans (hb.mono hw1)
      have hf1 := HFR.out lo
      by_cases hinf : lo = 9218868437227405312
      · have HI := Lib.hid hinf
        have hn1 : ¬ (lo : Int) < 9218868437227405312 := by omega
        clear hinf hlt
        go_wp2_with fail
        go_ret2
        refine ⟨lo, rfl, Lib.hid ?_, hB⟩
        exact near_first (by omega) HLO.out (fun h => absurd h (by have := HI.out; omega)) (fun h => absurd h (by have := HI.out; omega))
      · have hl1 : lo < 9218868437227405312 := by omega
        have cz := CU.out A1 d1 lo wr hl1 (HQ.out.below hb)
        have hle := HUP.out hl1
        have hl1i : (lo : Int) < 9218868437227405312 := by omega
        have HL1 := Lib.hid hl1
        by_cases hodd : lo % 2 = 1
        · have ho : ((lo : Int) % 2 == 1) = true := by rw [beq_iff_eq]; omega
          by_cases heq : X = mid2 D lo
          · rw [cmpZ_eq heq] at cz
            have CZ := Lib.hid cz
            have HE := Lib.hid heq
            have HO := Lib.hid hodd
            have hf2 := HFR.out (lo + 1)
            rw [show ((lo + 1 : Nat) : Int) = (lo : Int) + 1 by omega] at hf2
            clear cz heq hinf hlt hle hf1 hl1 hhi hodd
            go_wp2_with fail
            refine CZ.out.mono ?_
            rintro e w2 ⟨rfl, nb⟩
            have hB := hB.trans (nb.mono hB.size)
            clear nb
            go_wp2_with fail
            go_ret2
            refine ⟨lo + 1, rfl, Lib.hid ?_, hB⟩
            exact near_second HD.out HL1.out HO.out HE.out
          · have hc : X < mid2 D lo := by omega
            rw [cmpZ_lt hc] at cz
            have CZ := Lib.hid cz
            have HC := Lib.hid hc
            clear cz heq hinf hlt hle hc hl1 hhi hodd
            go_wp2_with fail
            refine CZ.out.mono ?_
            rintro e w2 ⟨rfl, nb⟩
            have hB := hB.trans (nb.mono hB.size)
            clear nb
            go_wp2_with fail
            go_ret2
            refine ⟨lo, rfl, Lib.hid ?_, hB⟩
            exact near_first (Nat.le_of_lt HL1.out) HLO.out (fun _ => Nat.le_of_lt HC.out) (fun _ he => absurd he (Nat.ne_of_lt HC.out))
        · have ho : ((lo : Int) % 2 == 1) = false := by rw [beq_eq_false_iff_ne]; omega
          have HL := Lib.hid hle
          have HO := Lib.hid hodd
          clear cz hinf hlt hle hodd hl1 hhi
          go_wp2_with fail
          go_ret2
          refine ⟨lo, rfl, Lib.hid ?_, hB⟩
          exact near_first (Nat.le_of_lt HL1.out) HLO.out (fun _ => HL.out) (fun _ _ => by have := HO.out; omega)
/-- The definition's Read. -/
theorem rread_end (s : ByteArray) (x : Int) (w : World) (hs : s.size ≤ 1024) (hd : isDec s = true) :
    Calls Try.prog 45 #[.string s, .int .i64 x] w (RRead w (2 * (pv s.data.toList * 10 ^ x.toNat) * S1074) (10 ^ (-x).toNat)) := by
  by_cases h : pv s.data.toList = 0 ∨ x < -1500 ∨ 400 < x
  · exact rread_far s x w hs hd h
  · exact rread_mid s x _ _ _ w hs hd rfl (by omega) (by omega) (by omega) rfl rfl
end Go.Proofs.Ytelhbkfhalpniaa

namespace Go.Proofs.Ytelhbkfhalpniaa

theorem far_pow : 2 * S1074 ≤ 10 ^ 324 := by decide +kernel
theorem near_low_end {n len : Nat} {e : Int} (hn : n < 10 ^ len) (h : e + (len : Int) < -400) : Near (2 * (n * 10 ^ e.toNat) * S1074) (10 ^ (-e).toNat) 0 := by
  obtain ⟨c, hc⟩ : ∃ c, (-e).toNat = c := ⟨_, rfl⟩
  obtain ⟨t, ht⟩ : ∃ t : Nat, t = 324 := ⟨_, rfl⟩
  have hf := far_pow
  rw [← ht] at hf
  rw [hc, show e.toNat = 0 by omega, Nat.pow_zero, Nat.mul_one]
  have h1 : 2 * n * S1074 < 10 ^ c := by
    have a1 : 2 * n * S1074 = n * (2 * S1074) := by
      generalize S1074 = z
      ac_rfl
    rw [a1]
    have a2 : n * (2 * S1074) ≤ n * 10 ^ t := Nat.mul_le_mul_left _ hf
    have a3 : n * 10 ^ t < 10 ^ len * 10 ^ t := Nat.mul_lt_mul_of_pos_right hn (Nat.pow_pos (by omega))
    rw [← Nat.pow_add] at a3
    have a4 : 10 ^ (len + t) ≤ 10 ^ c := Nat.pow_le_pow_right (by omega) (by omega)
    exact Nat.lt_of_le_of_lt a2 (Nat.lt_of_lt_of_le a3 a4)
  have hV : V 0 + V (0 + 1) = 1 := by decide
  refine ⟨fun q e => absurd e (by omega), fun q e => absurd e (by omega), fun _ => ?_, fun _ g => ?_, by omega⟩
  · rw [hV, Nat.one_mul]
    exact Nat.le_of_lt h1
  · rfl
theorem near_high_end {n len : Nat} {e : Int} (hn : 10 ^ (len - 1) ≤ n) (hl : 1 ≤ len) (h : 400 < e + (len : Int)) : Near (2 * (n * 10 ^ e.toNat) * S1074) (10 ^ (-e).toNat) 9218868437227405312 := by
  obtain ⟨t, ht⟩ : ∃ t : Nat, t = 310 := ⟨_, rfl⟩
  have hT := near_far_top (n := 1) (c := t) (by omega) (by omega)
  have h1 : 10 ^ t * 10 ^ (-e).toNat ≤ n * 10 ^ e.toNat := by
    have a1 : 10 ^ (len - 1) * 10 ^ e.toNat ≤ n * 10 ^ e.toNat := Nat.mul_le_mul_right _ hn
    rw [← Nat.pow_add] at a1
    rw [← Nat.pow_add]
    exact Nat.le_trans (Nat.pow_le_pow_right (by omega) (by omega)) a1
  refine ⟨fun q hq => ?_, fun q hq _ => by decide, fun g => absurd g (by omega), fun g => absurd g (by omega), by omega⟩
  have b := hT.lo q hq
  rw [Nat.mul_one, Nat.one_mul] at b
  have b2 : (V q + V 9218868437227405312) * 10 ^ (-e).toNat ≤ 2 * 10 ^ t * S1074 * 10 ^ (-e).toNat := Nat.mul_le_mul_right _ b
  refine Nat.le_trans b2 ?_
  have e1 : 2 * 10 ^ t * S1074 * 10 ^ (-e).toNat = 2 * (10 ^ t * 10 ^ (-e).toNat) * S1074 := by
    generalize S1074 = z
    ac_rfl
  rw [e1]
  exact Nat.mul_le_mul_right _ (Nat.mul_le_mul_left _ h1)
end Go.Proofs.Ytelhbkfhalpniaa
