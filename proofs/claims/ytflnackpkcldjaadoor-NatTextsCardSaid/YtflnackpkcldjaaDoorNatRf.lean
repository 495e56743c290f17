/- The definition of layer 2: Mul. -/
import Derived.Test.YtflnackpkcldjaaDoorNatRe
import Derived.Test.YtflnackpkcldjaaDoorNatY
namespace Go.Proofs.YtflnackpkcldjaaDoor
open Go.RowKit Go.Lib

/-- The state of the inner loop. -/
structure RMul (base cur : List Nat) (i j c x : Nat) (ys : List Nat) : Prop where
  len : cur.length = base.length
  lim : Lim D4 cur
  hc : c < 10000
  eq : vl D4 cur + D4 ^ (i + j) * c = vl D4 base + D4 ^ i * (x * vl D4 (ys.take j))
theorem rmul_start {base : List Nat} (h : Lim D4 base) (i x : Nat) (ys : List Nat) : RMul base base i 0 0 x ys := ⟨rfl, h, by omega, by simp [vl]⟩
theorem rmul_step {base cur ys : List Nat} {i j c x : Nat} (h : RMul base cur i j c x ys) (hx : x < 10000) (hy : Lim D4 ys) (hi : i + j < cur.length) (z : Nat) (hz : z = c + cur[i + j] + x * ys.getD j 0) :
    RMul base (cur.set (i + j) (z % 10000)) i (j + 1) (z / 10000) x ys := by
  have b1 : ys.getD j 0 < 10000 := getD_lt hy (by decide) j
  have b2 : cur[i + j] < 10000 := lim_get h.lim (i + j) hi
  refine ⟨by rw [List.length_set, h.len], lim_set h.lim (Nat.mod_lt _ (by decide)), ?_, ?_⟩
  · have h1 : x * ys.getD j 0 ≤ 9999 * 9999 := Nat.mul_le_mul (by omega) (by omega)
    have h3 := h.hc
    omega
  · have e1 := vl_set D4 cur (i + j) (z % 10000) hi
    have e2 := h.eq
    have hd : D4 ^ (i + j) * z = D4 ^ (i + j) * (z % 10000) + D4 ^ (i + j) * D4 * (z / 10000) := digit_step (B := 10000) (P := D4 ^ (i + j)) (z := z)
    have e3 := congrArg (D4 ^ (i + j) * ·) hz
    have e4 : D4 ^ i * (x * (D4 ^ j * ys.getD j 0)) = D4 ^ (i + j) * (x * ys.getD j 0) := by rw [Nat.pow_add, Nat.mul_left_comm x, Nat.mul_assoc]
    rw [vl_take_get, show i + (j + 1) = (i + j) + 1 by omega, Nat.pow_succ]
    simp only [Nat.mul_add] at e3 ⊢
    rw [e4]
    omega
/-- Beyond the second number's last piece and one more nothing is carried. -/
theorem rmul_carry {base cur xs ys : List Nat} {i j c x : Nat} (h : RMul base cur i j c x ys) (hv : vl D4 base = vl D4 (xs.take i) * vl D4 ys) (hxi : i < xs.length) (hxx : xs[i] = x) (hx : Lim D4 xs) (hy : Lim D4 ys) (hj : ys.length ≤ j) (hc : 0 < c) : j ≤ ys.length := by
  have e := h.eq
  rw [vl_take_all hj, hv] at e
  have e2 : vl D4 (xs.take i) * vl D4 ys + D4 ^ i * (x * vl D4 ys) = vl D4 (xs.take (i + 1)) * vl D4 ys := by
    rw [vl_take_succ D4 xs i hxi, hxx, Nat.add_mul, Nat.mul_assoc]
  rw [e2] at e
  have h1 : vl D4 (xs.take (i + 1)) < D4 ^ (i + 1) := by
    have := vl_lt (lim_take hx (i + 1))
    rwa [List.length_take, Nat.min_eq_left (by omega)] at this
  have h2 := vl_lt hy
  have h3 : vl D4 (xs.take (i + 1)) * vl D4 ys < D4 ^ (i + 1) * D4 ^ ys.length := Nat.mul_lt_mul'' h1 h2
  rw [← Nat.pow_add] at h3
  have h4 : D4 ^ (i + j) * 1 ≤ D4 ^ (i + j) * c := Nat.mul_le_mul_left _ hc
  have h5 : D4 ^ (i + j) < D4 ^ (i + 1 + ys.length) := by omega
  have := (Nat.pow_lt_pow_iff_right (show 1 < D4 by decide)).1 h5
  omega
theorem at_madeI (w : World) (n : Nat) : At .i64 (w.alloc (.cells (madeCells #[Value.int .i64 0] n) 3)) w.heap.size 3 [] (List.replicate n 0) [] := by
  refine ⟨_, heap_alloc_new w _, ?_⟩
  rw [toList_madeCells_one, nums, List.map_replicate]
  simp

set_option maxRecDepth 100000 in
set_option maxHeartbeats 4000000 in
theorem rmul_any (A A' : Option Addr) (ca cb : Nat) (xs ys : List Nat) (w : World) (hx : Lim D4 xs) (hy : Lim D4 ys) (hxn : xs.length ≤ 1000000) (hyn : ys.length ≤ 1000000) (hra : Rd .i64 w A xs) (hrb : Rd .i64 w A' ys) :
    Calls Tryd.prog 18 #[.slice A xs.length ca, .slice A' ys.length cb] w (Makes .i64 3 w (dig D4 (vl D4 xs * vl D4 ys))) := by
  obtain ⟨i0, hi, hz0, hz1, hz2⟩ := info_parts info_i64
  have hmk : ∀ W : World, (Instr.makeSlice 25 (.int .i64 ((xs.length : Int) + (ys.length : Int) + 1)) (.int .i64 ((xs.length : Int) + (ys.length : Int) + 1))).run Tryd.prog W = .ok (.slice (some ⟨W.heap.size, 0, none⟩) (xs.length + ys.length + 1) (xs.length + ys.length + 1)) (W.alloc (.cells (madeCells (Value.int .i64 0).cells ((xs.length + ys.length + 1) * 1)) 3)) := fun W => by
    have := run_make (P := Tryd.prog) W 25 3 i0 (.int .i64 0) Tryd.underlying25 hi hz0 .i64 .i64 ((xs.length : Int) + (ys.length : Int) + 1) ((xs.length : Int) + (ys.length : Int) + 1) (by omega) (by omega) (by rw [hz2]; omega) (by omega)
    rw [hz1, show ((xs.length : Int) + (ys.length : Int) + 1).toNat = xs.length + ys.length + 1 by omega] at this
    exact this
  clear hi hz0 hz1 hz2
  go_enter Tryd.func18, Tryd.ntmps18
  go_wp2
  have fN := at_madeI w (xs.length + ys.length + 1)
  have hBa := (Below.refl w.heap.size w).alloc (Nat.le_refl _) (.cells (madeCells #[Value.int .i64 0] (xs.length + ys.length + 1)) 3)
  obtain ⟨g, hg⟩ : ∃ g, w.heap.size = g := ⟨_, rfl⟩
  have hgB : w.heap.size ≤ g := by omega
  rw [hg] at fN
  rw [hg]
  have HG := Lib.hid hg
  clear hg
  go_loopw [6] (fun i wr => ∃ (k : Nat) (cur : List Nat), k ≤ xs.length ∧ i = .int .i64 k ∧ At .i64 wr g 3 [] cur [] ∧ cur.length = xs.length + ys.length + 1 ∧ Lim D4 cur ∧ vl D4 cur = vl D4 (xs.take k) * vl D4 ys ∧ Below w.heap.size w wr) (fun i _ => xs.length - (RowKit.intOf i).toNat)
  case atStart => exact ⟨0, _, Nat.zero_le _, rfl, fN, List.length_replicate, lim_zeros (by decide) _, by rw [vl_zeros]; simp [vl], hBa⟩
  case round =>
    clear fN hBa
    obtain ⟨k, cur, hk, rfl, fA, hlen, hL, hv, hB⟩ := hrel
    have HLEN := Lib.hid hlen
    have HV := Lib.hid hv
    clear hlen hv
    by_cases hlt : k < xs.length
    · obtain ⟨ga, oa, rfl, hca⟩ := hra k hlt
      obtain ⟨x, hxe, hxk⟩ := lim4 hx k hlt
      rw [hxe] at hca
      have HXE := Lib.hid hxe
      have hgab := World.block_lt_of_cell? w _ hca
      clear hxe
      go_wp2
      obtain ⟨wo, rfl⟩ : ∃ wo : World, wo = wr := ⟨wr, rfl⟩
      go_loopw [7, 8] (fun c j wi => ∃ (m z : Nat) (cur' : List Nat), j = .int .i64 m ∧ c = .int .i64 z ∧ At .i64 wi g 3 [] cur' [] ∧ RMul cur cur' k m z x ys ∧ (m ≤ ys.length ∨ z = 0) ∧ m ≤ ys.length + 1 ∧ Below w.heap.size w wi) (fun _ j _ => ys.length + 1 - (RowKit.intOf j).toNat)
      case atStart => exact ⟨0, 0, cur, rfl, rfl, fA, rmul_start hL k x ys, .inl (Nat.zero_le _), by omega, hB⟩
      case round =>
        clear fA hB
        obtain ⟨m, z, cur', rfl, rfl, fA, hM, hmz, hmb, hB⟩ := hrel
        have hzb : z < 10000 := hM.hc
        have hlc : cur'.length = xs.length + ys.length + 1 := by rw [hM.len, HLEN.out]
        by_cases hgo : m < ys.length ∨ 0 < z
        · have hml : m ≤ ys.length := by omega
          have hkm : k + m < cur'.length := by omega
          obtain ⟨d, hde, hdk⟩ := lim4 hM.lim (k + m) hkm
          have hcd := fA.cell (o := 0) rfl (k + m) hkm
          rw [Nat.zero_add, hde] at hcd
          have hfz := fA.frozen (k + m)
          have hkml : (k : Int) + (m : Int) < (xs.length : Int) + (ys.length : Int) + 1 := by omega
          have hcw : wr.cell? ⟨ga, oa + k, none⟩ = some (.int .i64 (x : Nat)) := (hB.cell hgab).trans hca
          by_cases hmt : m < ys.length
          · obtain ⟨gb, ob, rfl, hcb⟩ := (hrb.below hB) m hmt
            obtain ⟨y, hye, hyk⟩ := lim4 hy m hmt
            rw [hye] at hcb
            have hpb : x * y ≤ 9999 * 9999 := Nat.mul_le_mul (by omega) (by omega)
            obtain ⟨p, hp⟩ : ∃ p, x * y = p := ⟨_, rfl⟩
            have hpi : (x : Int) * (y : Int) = (p : Int) := by rw [← hp]; exact (Int.natCast_mul _ _).symm
            rw [hp] at hpb
            have hS := rmul_step hM hxk hy hkm (z + d + p) (by rw [getD_of hmt, hye, hde, hp])
            have hA1 := fA.set (o := 0) rfl (k + m) ((z + d + p) % 10000) hkm
            rw [Nat.zero_add] at hA1
            have HS := Lib.hid hS
            have hx1 : (k : Int) < (xs.length : Int) := by omega
            have hy1 : (m : Int) < (ys.length : Int) := by omega
            clear hye hde hp hS hM hlc hkm hmz hgo
            obtain ⟨S, hSe⟩ : ∃ S, z + d + p = S := ⟨_, rfl⟩
            rw [hSe] at HS hA1
            have hSi : (z : Int) + (d : Int) + (p : Int) = (S : Int) := by omega
            have hSb : S ≤ 100000000 := by omega
            have hw1 : IntKind.i64.wrap (p : Int) = (p : Int) := IntWalk.i64_in _ (by omega)
            have hw2 : IntKind.i64.wrap (S : Int) = (S : Int) := IntWalk.i64_in _ (by omega)
            have HA1 := Lib.hid hA1
            clear hA1 hSe
            go_wp2
            go_quiet (fail)
            clear hw1 hw2
            go_wp2
            clear hpi hSi
            go_roundw
            case rel => exact ⟨m + 1, S / 10000, _, by go_num, vint (by omega), HA1.out, HS.out, by omega, by omega, (below_drewN' hB _).setCell hgB _⟩
            case measure => simp [RowKit.intOf]; omega
          · have hzp : 0 < z := by omega
            have hS := rmul_step hM hxk hy hkm (z + d) (by rw [getD_no hmt, hde]; simp)
            have hA1 := fA.set (o := 0) rfl (k + m) ((z + d) % 10000) hkm
            rw [Nat.zero_add] at hA1
            have HS := Lib.hid hS
            have HA1 := Lib.hid hA1
            have hc2 : m + 1 ≤ ys.length ∨ (z + d) / 10000 = 0 := by
              rcases Nat.eq_zero_or_pos ((z + d) / 10000) with h | h
              · exact .inr h
              · have := rmul_carry hS HV.out hlt HXE.out hx hy (by omega) h
                omega
            clear hde hS hA1 hM hlc hkm hmz hgo
            go_wp2
            go_roundw
            case rel => exact ⟨m + 1, (z + d) / 10000, _, by go_num, vint (by omega), HA1.out, HS.out, hc2, by omega, hB.setCell hgB _⟩
            case measure => simp [RowKit.intOf]; omega
        · have hmy : ys.length ≤ m := by omega
          obtain rfl : z = 0 := by omega
          have hv2 : vl D4 cur' = vl D4 (xs.take (k + 1)) * vl D4 ys := by
            have e := hM.eq
            rw [vl_take_all hmy, Nat.mul_zero, Nat.add_zero, HV.out] at e
            rw [e, vl_take_succ D4 xs k hlt, HXE.out, Nat.add_mul, Nat.mul_assoc]
          have HV2 := Lib.hid hv2
          have HLC := Lib.hid hlc
          have hlim := hM.lim
          have hm1 : ¬ m < ys.length := by omega
          clear hv2 hlc hM hmz hgo
          go_wp2
          go_roundw
          case rel => exact ⟨k + 1, cur', hlt, by go_num, fA, HLC.out, hlim, HV2.out, hB⟩
          case measure => simp [RowKit.intOf]; omega
    · obtain rfl : k = xs.length := by omega
      have hO := own_of_at (B := w.heap.size) (cap := xs.length + ys.length + 1) fA hgB (by rw [HLEN.out]; rfl) (by unfold maxLen; omega)
      rw [HLEN.out] at hO
      have cT := rtrim_own _ _ cur wr hL (by rw [HLEN.out]; omega) hO
      have hv := HV.out
      rw [vl_take_all (Nat.le_refl _)] at hv
      rw [hv] at cT
      have CT := Lib.hid cT
      clear cT hO hv fA
      go_wp2_with fail
      refine CT.out.mono ?_
      rintro e w' ⟨⟨v', rfl, hO7⟩, rfl⟩
      have HO7 := Lib.hid hO7
      clear hO7 CT
      go_wp2
      go_ret
      exact ⟨_, rfl, HO7.out, hB⟩
end Go.Proofs.YtflnackpkcldjaaDoor
