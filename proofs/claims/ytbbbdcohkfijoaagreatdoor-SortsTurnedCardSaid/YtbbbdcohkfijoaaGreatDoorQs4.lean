/- Several texts in one (Contracts of layer 2: Mul; Contracts of layer 3: fits, word; Small facts on answers of layer 2; Contracts of layer 3: fractions, timesTwo; Plain: decimal texts of numbers; Contracts of layer 2: isDigits, Parse; Contracts of layer 2: Parse; Contracts of layer 3: nearest, digits; Contracts of layer 3: digits, ten; Contracts of layer 3: timesTen; Contracts of layer 3: floats by their bits: Abs, IsNaN, IsInf, Parts; Contracts of layer 3: which floats are finite; Parts; Contracts of layer 3: amount; Contracts of layer 3: Fixed). -/
import Derived.WalkSpells
import Derived.WalkLawsBesides
import Derived.RegionTactic
import Derived.ChangeAlike
import Derived.Lib.LazyBuf
import Derived.Lib.BufferRead
import Derived.Deep.RegionWith
import Derived.Laws.Cover2
import Derived.Laws.Externs
import Derived.Laws.BitsAll
import Derived.Deep.QuietTactic
import Derived.BigQuiet
import Derived.Test.YtbbbdcohkfijoaaGreatDoorQs1
import Derived.Test.YtbbbdcohkfijoaaGreatDoorQs2
import Derived.Test.YtbbbdcohkfijoaaGreatDoorQs3
namespace Go.Proofs.YtbbbdcohkfijoaaGreatDoor
open Go.RowKit Go.Lib

/-- The state of the inner loop of the product. -/
structure MulIn (B : Nat) (base cur : List Nat) (i j c x : Nat) (ys : List Nat) : Prop where
  len : cur.length = base.length
  lim : Lim B cur
  hc : c < B
  rest : cur.drop (i + ys.length) = base.drop (i + ys.length)
  eq : vl B cur + B ^ (i + j) * c = vl B base + B ^ i * (x * vl B (ys.take j))
theorem mulIn_start {B : Nat} (hB : 0 < B) {base : List Nat} (h : Lim B base) (i x : Nat) (ys : List Nat) : MulIn B base base i 0 0 x ys := ⟨rfl, h, hB, rfl, by simp [vl]⟩
theorem mulIn_step {B : Nat} {base cur ys : List Nat} {i j c x : Nat} (h : MulIn B base cur i j c x ys) (hx : x < B) (hy : Lim B ys) (hj : j < ys.length) (hi : i + j < cur.length) (z : Nat) (hz : z = c + (x * ys[j] + cur[i + j])) :
    MulIn B base (cur.set (i + j) (z % B)) i (j + 1) (z / B) x ys := by
  have b1 := lim_get hy j hj
  have b2 := lim_get h.lim (i + j) hi
  have hB : 0 < B := by omega
  refine ⟨by rw [List.length_set, h.len], lim_set h.lim (Nat.mod_lt _ hB), ?_, ?_, ?_⟩
  · apply Nat.div_lt_of_lt_mul
    have h1 : x * ys[j] ≤ (B - 1) * (B - 1) := Nat.mul_le_mul (by omega) (by omega)
    have h2 : (B - 1) * (B - 1) + (B - 1) + (B - 1) < B * B := by
      obtain ⟨b, rfl⟩ : ∃ b, B = b + 1 := ⟨B - 1, by omega⟩
      simp only [Nat.add_sub_cancel, Nat.add_mul, Nat.mul_add, Nat.mul_one, Nat.one_mul]
      omega
    have h3 := h.hc
    omega
  · rw [List.drop_set_of_lt (by omega), h.rest]
  · have e1 := vl_set B cur (i + j) (z % B) hi
    have e2 := h.eq
    have hd := digit_step (B := B) (P := B ^ (i + j)) (z := z)
    have e3 := congrArg (B ^ (i + j) * ·) hz
    have e4 : B ^ i * (x * (B ^ j * ys[j])) = B ^ (i + j) * (x * ys[j]) := by rw [Nat.pow_add, Nat.mul_left_comm x, Nat.mul_assoc]
    rw [vl_take_succ B ys j hj, show i + (j + 1) = (i + j) + 1 by omega, Nat.pow_succ]
    simp only [Nat.mul_add] at e3 ⊢
    rw [e4]
    omega
/-- One row of the product more. -/
theorem mul_row {B : Nat} {base cur xs ys : List Nat} {i c x : Nat} (h : MulIn B base cur i ys.length c x ys) (hv : vl B base = vl B (xs.take i) * vl B ys) (hi : i < xs.length) (hx : xs[i] = x) (hl : base.length = xs.length + ys.length)
    (hz : base.drop (i + ys.length) = List.replicate (xs.length - i) 0) :
    vl B (cur.set (i + ys.length) c) = vl B (xs.take (i + 1)) * vl B ys ∧ (cur.set (i + ys.length) c).drop (i + 1 + ys.length) = List.replicate (xs.length - (i + 1)) 0 ∧ Lim B (cur.set (i + ys.length) c) := by
  have hlen : i + ys.length < cur.length := by have := h.len; omega
  have h0 : cur[i + ys.length] = 0 := by
    have a := drop_get cur (i + ys.length) hlen
    rw [h.rest, hz, show xs.length - i = (xs.length - (i + 1)) + 1 by omega, List.replicate_succ] at a
    exact (List.cons.inj a).1.symm
  refine ⟨?_, ?_, lim_set h.lim h.hc⟩
  · have e1 := vl_set B cur (i + ys.length) c hlen
    have e2 := h.eq
    rw [h0, Nat.mul_zero, Nat.add_zero] at e1
    rw [vl_take_all (Nat.le_refl _), hv] at e2
    rw [e1, e2, vl_take_succ B xs i hi, hx, Nat.add_mul, Nat.mul_assoc]
  · rw [List.drop_set_of_lt (by omega), show i + 1 + ys.length = (i + ys.length) + 1 by omega, ← List.drop_drop, h.rest, hz, List.drop_replicate]
    congr 1
theorem mul_fits {x y d c : Nat} (hx : x < 4294967296) (hy : y < 4294967296) (hd : d < 4294967296) (hc : c < 4294967296) : ∃ p : Nat, x * y = p ∧ (x : Int) * (y : Int) = (p : Int) ∧ (p : Int) + (d : Int) + (c : Int) ≤ 18446744073709551615 := by
  have h : x * y ≤ 4294967295 * 4294967295 := Nat.mul_le_mul (by omega) (by omega)
  exact ⟨x * y, rfl, (Int.natCast_mul _ _).symm, by omega⟩

set_option maxRecDepth 100000 in
set_option maxHeartbeats 4000000 in
theorem mul_any (A A' : Option Addr) (ca cb : Nat) (xs ys : List Nat) (w : World) (hx : Lim B32 xs) (hy : Lim B32 ys) (hxn : xs.length ≤ 1000) (hyn : ys.length ≤ 1000) (hra : Rd .u32 w A xs) (hrb : Rd .u32 w A' ys) :
    Calls Tryz.prog 243 #[.slice A xs.length ca, .slice A' ys.length cb] w (RowErr w.heap.size w (res2 xs ys (vl B32 xs * vl B32 ys))) := by
  have cV := fun (W : World) (h : Rd .u32 W A xs) => valid_any A ca xs W (by omega) hx h
  have cU := fun (W : World) (h : Rd .u32 W A' ys) => valid_any A' cb ys W (by omega) hy h
  by_cases hvx : vld xs = true
  case neg =>
    have hvf : vld xs = false := by simpa using hvx
    have HR := Lib.hid (show res2 xs ys (vl B32 xs * vl B32 ys) = ([], 30) by rw [res2, if_neg (fun h => hvx h.1)])
    rw [hvf] at cV
    have CV := Lib.hid cV
    clear cV cU hvx hvf
    go_enter Tryz.func243, Tryz.ntmps243
    go_wp2_with fail
    refine (CV.out _ hra).mono ?_
    rintro e w' ⟨rfl, rfl⟩
    go_wp2
    go_ret2
    exact ⟨_, by rw [HR.out]; rfl, by rw [HR.out]; exact Own.nil _ _ _, Below.refl _ _⟩
  by_cases hvy : vld ys = true
  case neg =>
    have hvf : vld ys = false := by simpa using hvy
    have HR := Lib.hid (show res2 xs ys (vl B32 xs * vl B32 ys) = ([], 30) by rw [res2, if_neg (fun h => hvy h.2)])
    rw [hvx] at cV
    rw [hvf] at cU
    have CV := Lib.hid cV
    have CU := Lib.hid cU
    clear cV cU hvx hvy hvf
    go_enter Tryz.func243, Tryz.ntmps243
    go_wp2_with fail
    refine (CV.out _ hra).mono ?_
    rintro e w' ⟨rfl, rfl⟩
    go_wp2_with fail
    refine (CU.out _ hrb).mono ?_
    rintro e w' ⟨rfl, rfl⟩
    go_wp2
    go_ret2
    exact ⟨_, by rw [HR.out]; rfl, by rw [HR.out]; exact Own.nil _ _ _, Below.refl _ _⟩
  have HR := Lib.hid (show res2 xs ys (vl B32 xs * vl B32 ys) = natRes (vl B32 xs * vl B32 ys) by rw [res2, if_pos ⟨hvx, hvy⟩])
  rw [hvx] at cV
  rw [hvy] at cU
  have CV := Lib.hid cV
  have CU := Lib.hid cU
  obtain ⟨i0, hi, hz0, hz1, hz2⟩ := info_parts info_u32
  have hmk : ∀ W : World, (Instr.makeSlice 241 (.int .i64 ((xs.length : Int) + (ys.length : Int))) (.int .i64 ((xs.length : Int) + (ys.length : Int)))).run Tryz.prog W = .ok (.slice (some ⟨W.heap.size, 0, none⟩) (xs.length + ys.length) (xs.length + ys.length)) (W.alloc (.cells (madeCells (Value.int .u32 0).cells ((xs.length + ys.length) * 1)) 275)) := fun W => by
    have := run_make (P := Tryz.prog) W 241 275 i0 (.int .u32 0) Tryz.underlying241 hi hz0 .i64 .i64 ((xs.length : Int) + (ys.length : Int)) ((xs.length : Int) + (ys.length : Int)) (by omega) (by omega) (by rw [hz2]; omega) (by omega)
    rw [hz1, show ((xs.length : Int) + (ys.length : Int)).toNat = xs.length + ys.length by omega] at this
    exact this
  clear cV cU hvx hvy hi hz0 hz1 hz2
  go_enter Tryz.func243, Tryz.ntmps243
  go_wp2_with fail
  refine (CV.out _ hra).mono ?_
  rintro e w' ⟨rfl, rfl⟩
  go_wp2_with fail
  refine (CU.out _ hrb).mono ?_
  rintro e w' ⟨rfl, rfl⟩
  clear CV CU
  have fN : At .u32 (w.alloc (.cells (madeCells #[Value.int .u32 0] (xs.length + ys.length)) 275)) w.heap.size 275 [] (List.replicate (xs.length + ys.length) 0) [] := by
    have := at_made w (xs.length + ys.length)
    rwa [Nat.mul_one] at this
  have hBa := (Below.refl w.heap.size w).alloc (Nat.le_refl _) (.cells (madeCells #[Value.int .u32 0] (xs.length + ys.length)) 275)
  go_wp2
  obtain ⟨g, hg⟩ : ∃ g, w.heap.size = g := ⟨_, rfl⟩
  have hgB : w.heap.size ≤ g := by omega
  have HG := Lib.hid hg
  rw [hg] at fN
  rw [hg]
  go_loopw [28] (fun i wr => ∃ (k : Nat) (cur : List Nat), k ≤ xs.length ∧ i = .int .i64 k ∧ At .u32 wr g 275 [] cur [] ∧ cur.length = xs.length + ys.length ∧ Lim B32 cur ∧ vl B32 cur = vl B32 (xs.take k) * vl B32 ys ∧ cur.drop (k + ys.length) = List.replicate (xs.length - k) 0 ∧ Below w.heap.size w wr) (fun i _ => xs.length - (RowKit.intOf i).toNat)
  case atStart => exact ⟨0, _, Nat.zero_le _, rfl, fN, List.length_replicate, lim_zeros (by decide) _, by rw [vl_zeros]; simp [vl], by rw [List.drop_replicate]; congr 1; omega, hBa⟩
  case round =>
    clear fN hBa hg
    obtain ⟨k, cur, hk, rfl, fA, hlen, hL, hv, hz, hB⟩ := hrel
    have HLEN := Lib.hid hlen
    have HV := Lib.hid hv
    have HZ := Lib.hid hz
    clear hlen hv hz
    by_cases hlt : k < xs.length
    · obtain ⟨ga, oa, rfl, hca⟩ := (hra.below hB) k hlt
      obtain ⟨x, hxe, hxk⟩ := lim32 hx k hlt
      rw [hxe] at hca
      have HXE := Lib.hid hxe
      clear hxe
      go_wp2
      obtain ⟨wo, rfl⟩ : ∃ wo : World, wo = wr := ⟨wr, rfl⟩
      go_loopw [9, 35] (fun c j wi => ∃ (m z : Nat) (cur' : List Nat), m ≤ ys.length ∧ j = .int .i64 m ∧ c = .int .u64 z ∧ At .u32 wi g 275 [] cur' [] ∧ MulIn B32 cur cur' k m z x ys ∧ Below w.heap.size w wi) (fun _ j _ => ys.length - (RowKit.intOf j).toNat)
      case atStart => exact ⟨0, 0, cur, Nat.zero_le _, rfl, rfl, fA, mulIn_start (by decide) hL k x ys, hB⟩
      case round =>
        clear fA hB
        obtain ⟨m, z, cur', hm, rfl, rfl, fA, hM, hB⟩ := hrel
        have hzb : z < 4294967296 := hM.hc
        have hlc : cur'.length = xs.length + ys.length := by rw [hM.len, HLEN.out]
        by_cases hmt : m < ys.length
        · obtain ⟨gb, ob, rfl, hcb⟩ := (hrb.below hB) m hmt
          obtain ⟨y, hye, hyk⟩ := lim32 hy m hmt
          rw [hye] at hcb
          have hkm : k + m < cur'.length := by omega
          obtain ⟨d, hde, hdk⟩ := lim32 hM.lim (k + m) hkm
          have hcd := fA.cell (o := 0) rfl (k + m) hkm
          rw [Nat.zero_add, hde] at hcd
          have hfz := fA.frozen (k + m)
          obtain ⟨p, hp, hpi, hpb⟩ := mul_fits hxk hyk hdk hzb
          have hS := mulIn_step (B := 4294967296) hM hxk hy hmt hkm (z + (p + d)) (by rw [hye, hde, hp])
          have hA1 := fA.set (o := 0) rfl (k + m) ((z + (p + d)) % 4294967296) hkm
          rw [Nat.zero_add] at hA1
          have HS := Lib.hid hS
          have HA1 := Lib.hid hA1
          have hkml : (k : Int) + (m : Int) < (xs.length : Int) + (ys.length : Int) := by omega
          clear hye hde hp hS hA1 hM hlc hkm fA
          go_wp2
          clear hpi
          go_roundw
          case rel => exact ⟨m + 1, (z + (p + d)) / 4294967296, _, hmt, by go_num, vint (by omega), by rw [show ((z : Int) + ((p : Int) + (d : Int))) % 4294967296 = (((z + (p + d)) % 4294967296 : Nat) : Int) by omega]; exact HA1.out, HS.out, hB.setCell hgB _⟩
          case measure => simp [RowKit.intOf]; omega
        · obtain rfl : m = ys.length := by omega
          obtain ⟨r1, r2, r3⟩ := mul_row hM HV.out hlt HXE.out HLEN.out HZ.out
          have hkm : k + ys.length < cur'.length := by omega
          have hcd := fA.cell (o := 0) rfl (k + ys.length) hkm
          rw [Nat.zero_add] at hcd
          obtain ⟨u, hu⟩ : ∃ u, cur'[k + ys.length] = u := ⟨_, rfl⟩
          rw [hu] at hcd
          have hfz := fA.frozen (k + ys.length)
          have hA1 := fA.set (o := 0) rfl (k + ys.length) z hkm
          rw [Nat.zero_add] at hA1
          have hl2 : (cur'.set (k + ys.length) z).length = xs.length + ys.length := by rw [List.length_set, hlc]
          have R1 := Lib.hid r1
          have R2 := Lib.hid r2
          have HA1 := Lib.hid hA1
          have HL2 := Lib.hid hl2
          have hkml : (k : Int) + (ys.length : Int) < (xs.length : Int) + (ys.length : Int) := by omega
          clear r1 r2 hA1 hl2 hM hlc hkm fA hu
          go_wp2
          go_roundw
          case rel => exact ⟨k + 1, _, hlt, by go_num, HA1.out, HL2.out, r3, R1.out, R2.out, hB.setCell hgB _⟩
          case measure => simp [RowKit.intOf]; omega
    · obtain rfl : k = xs.length := by omega
      have hO := own_of_at (B := w.heap.size) (cap := xs.length + ys.length) fA hgB (by rw [HLEN.out]; rfl) (by unfold maxLen; omega)
      rw [HLEN.out] at hO
      have cF := fit_own _ _ cur wr hL (by rw [HLEN.out]; omega) hO
      have hv := HV.out
      rw [vl_take_all (Nat.le_refl _)] at hv
      rw [hv] at cF
      have CF := Lib.hid cF
      clear cF hO hv fA
      go_wp2_with fail
      refine CF.out.mono ?_
      rintro e w4 ⟨v, rfl, hO4, hB4⟩
      obtain ⟨nr, hnr⟩ : ∃ nr, natRes (vl B32 xs * vl B32 ys) = nr := ⟨_, rfl⟩
      rw [hnr] at hO4 HR
      rw [hnr]
      obtain ⟨nl, ne⟩ := nr
      have HO4 := Lib.hid hO4
      clear hO4 hnr CF
      have hBz := hB.trans hB4
      go_wp2
      go_ret2
      exact ⟨_, by rw [HR.out]; rfl, by rw [HR.out]; exact HO4.out, hBz⟩
end Go.Proofs.YtbbbdcohkfijoaaGreatDoor

namespace Go.Proofs.YtbbbdcohkfijoaaGreatDoor
open Go.RowKit Go.Lib

/-- A natural's lowest 64 binary digits, as limbs. -/
def low64 (xs : List Nat) : Nat := vl B32 (xs.take 2)
theorem low64_mod {xs : List Nat} (hx : Lim B32 xs) : low64 xs = vl B32 xs % 18446744073709551616 := by
  unfold low64
  by_cases h : 2 ≤ xs.length
  · have h1 := vl_take_drop B32 xs 2 h
    have h2 := vl_lt (lim_take hx 2)
    rw [List.length_take, Nat.min_eq_left h] at h2
    have e : B32 ^ 2 = 18446744073709551616 := by decide
    rw [e] at h1 h2
    rw [h1, Nat.add_mul_mod_self_left, Nat.mod_eq_of_lt h2]
  · have h2 := vl_lt hx
    rw [List.take_of_length_le (by omega)]
    rw [Nat.mod_eq_of_lt]
    have h3 : B32 ^ xs.length ≤ B32 ^ 2 := Nat.pow_le_pow_right (by decide) (by omega)
    have e : B32 ^ 2 = 18446744073709551616 := by decide
    omega
theorem or_lo (x : Nat) (hx : x < 4294967296) : bits .or .u64 0 (x : Int) = (x : Int) := by
  have h := u64_or_nat 0 x (by omega) (by omega)
  rwa [Nat.zero_or] at h
theorem or_hi {z x : Nat} (hz : z < 4294967296) (hx : x < 4294967296) : bits .or .u64 (x : Int) ((z : Int) * 4294967296) = (x : Int) + (z : Int) * 4294967296 := by
  have h := u64_or_nat x (z * 4294967296) (by omega) (by omega)
  rw [Nat.or_comm, show z * 4294967296 ||| x = z * 4294967296 + x from or_low (k := 32) hx] at h
  rw [Int.natCast_mul, Int.natCast_add, Int.natCast_mul] at h
  rw [Int.add_comm]
  exact h
set_option maxRecDepth 100000 in
set_option maxHeartbeats 1000000 in
theorem word_any (A : Option Addr) (ca : Nat) (xs : List Nat) (w : World) (hx : Lim B32 xs) (hxn : xs.length ≤ 1000) (hcap : xs.length ≤ ca) (_hcm : ca ≤ maxLen) (hr : Rd .u32 w A xs) :
    Calls Tryz.prog 221 #[.slice A xs.length ca] w fun e w' => e = .returned (.int .u64 (low64 xs)) ∧ w = w' := by
  obtain ⟨n, hn⟩ : ∃ n, min 2 xs.length = n := ⟨_, rfl⟩
  have hni : min (2 : Int) (xs.length : Int) = (n : Int) := by omega
  have hn2 : n ≤ 2 := by omega
  have hnl : n ≤ xs.length := by omega
  have hnc : n ≤ ca := by omega
  have HE := Lib.hid (show low64 xs = vl B32 (xs.take n) by
    unfold low64
    by_cases h : 2 ≤ xs.length
    · rw [show n = 2 by omega]
    · rw [List.take_of_length_le (by omega), List.take_of_length_le (by omega)])
  clear hn
  go_enter Tryz.func221, Tryz.ntmps221
  go_wp2
  go_loop [3, 12] (fun v i => ∃ k : Nat, k ≤ n ∧ i = .int .i64 k ∧ v = .int .u64 (vl B32 (xs.take k))) (fun _ i => n - (RowKit.intOf i).toNat)
  case atStart => exact ⟨0, Nat.zero_le _, rfl, rfl⟩
  case round =>
    obtain ⟨k, hk, rfl, rfl⟩ := hrel
    by_cases hlt : k < n
    · have hkl : k < xs.length := by omega
      obtain ⟨g, o, rfl, hc⟩ := hr k hkl
      obtain ⟨x, hxe, hxk⟩ := lim32 hx k hkl
      rw [hxe] at hc
      have HV := Lib.hid (vl_take_succ B32 xs k hkl)
      rw [hxe] at HV
      clear hxe
      rcases (by omega : k = 0 ∨ k = 1) with rfl | rfl
      · have hor := or_lo x hxk
        rw [Nat.add_zero] at hc
        rw [List.take_zero, vl_nil]
        go_wp2
        clear hor
        go_round
        case rel => exact ⟨1, by omega, rfl, by rw [HV.out, List.take_zero, vl_nil]; exact vint (by simp)⟩
        case measure => simp [RowKit.intOf]; omega
      · have hy := vl_lt (lim_take hx 1)
        rw [List.length_take, Nat.min_eq_left (by omega), Nat.pow_one] at hy
        obtain ⟨y, hye⟩ : ∃ y, vl B32 (xs.take 1) = y := ⟨_, rfl⟩
        rw [hye] at hy HV
        rw [hye]
        have hor := or_hi hxk hy
        clear hye
        go_wp2
        clear hor
        go_round
        case rel => exact ⟨2, by omega, rfl, by rw [HV.out]; exact vint (by simp; omega)⟩
        case measure => simp [RowKit.intOf]; omega
    · obtain rfl : k = n := by omega
      go_wp2
      go_ret
      exact ⟨by rw [HE.out]; rfl, rfl⟩
end Go.Proofs.YtbbbdcohkfijoaaGreatDoor

namespace Go.Proofs.YtbbbdcohkfijoaaGreatDoor
open Go.RowKit Go.Lib

theorem Own.slice_ {κ : IntKind} {w : World} {B : Nat} {t : TypeId} {v : Value} {xs : List Nat} (h : Own κ w B t v xs) : ∃ A cap, v = .slice A xs.length cap ∧ (A = none → cap = 0) := by
  rcases h.forms with ⟨rfl, rfl⟩ | ⟨g, cap, rfl, _, _, _⟩
  · exact ⟨none, 0, rfl, fun _ => rfl⟩
  · exact ⟨_, cap, rfl, fun e => by cases e⟩
theorem len_dig {n : Nat} (h : n < B32 ^ 256) : (dig B32 n).length ≤ 256 := (dig_len_le (by decide) n 256).2 h
theorem vld_dig {n : Nat} (h : n < B32 ^ 256) : vld (dig B32 n) = true := vld_iff.2 ⟨len_dig h, (dig_norm (by decide) n).2⟩
theorem res2_ok {xs ys : List Nat} {n : Nat} (hx : vld xs = true) (hy : vld ys = true) (h : n < B32 ^ 256) : res2 xs ys n = (dig B32 n, 0) := by
  rw [res2, if_pos ⟨hx, hy⟩, natRes, if_pos (len_dig h)]
theorem lim_dig (n : Nat) : Lim B32 (dig B32 n) := (dig_norm (by decide) n).1
end Go.Proofs.YtbbbdcohkfijoaaGreatDoor

namespace Go.Proofs.YtbbbdcohkfijoaaGreatDoor
open Go.RowKit Go.Lib

theorem bitsN_low {xs : List Nat} (hx : Lim B32 xs) (h0 : xs ≠ []) (ht : Top xs) : 2 ^ (bitsN xs - 1) ≤ vl B32 xs ∧ 1 ≤ bitsN xs := by
  obtain ⟨l, y, rfl⟩ := snoc_of_ne h0
  have hll := lim_append.1 hx
  have hy : y < 4294967296 := lim_one.1 hll.2
  have hy0 := top_snoc.1 ht
  have e : Lib.bitLen y = Lib.bitLenAux 32 y := Lib.bitLenAux_fuel 32 y hy 64 (by omega)
  obtain ⟨a, b, c, d⟩ := bitLenAux_bounds 32 y hy hy0
  rw [← e] at a b c d
  have eb : bitsN (l ++ [y]) = 32 * l.length + Lib.bitLen y := by
    rw [bitsN, if_neg h0, List.length_append, List.length_singleton, Nat.add_sub_cancel, List.getD_eq_getElem?_getD, List.getElem?_append_right (Nat.le_refl _), Nat.sub_self]
    show l.length * 32 + Lib.bitLen y = _
    omega
  rw [eb, show 32 * l.length + Lib.bitLen y - 1 = 32 * l.length + (Lib.bitLen y - 1) by omega]
  refine ⟨?_, by omega⟩
  rw [vl_snoc, Nat.pow_add, Nat.pow_mul]
  have h2 : B32 ^ l.length * 2 ^ (Lib.bitLen y - 1) ≤ B32 ^ l.length * y := Nat.mul_le_mul_left _ c
  show (2 ^ 32) ^ l.length * _ ≤ _
  have h3 : (2 ^ 32) ^ l.length = B32 ^ l.length := rfl
  rw [h3]
  omega
theorem pow_below {a b : Nat} (h : 2 ^ a < B32 ^ b) : a < 32 * b := by
  have e : B32 = 2 ^ 32 := by decide
  rw [e, ← Nat.pow_mul] at h
  exact (Nat.pow_lt_pow_iff_right (by omega)).1 h
/-- A shift that has room. -/
theorem shl_fit {N k : Nat} (h : N * 2 ^ k < B32 ^ 256) : shlRes (dig B32 N) (k : Nat) = (dig B32 (N * 2 ^ k), 0) := by
  have hN : N < B32 ^ 256 := by
    have : N * 1 ≤ N * 2 ^ k := Nat.mul_le_mul_left _ (Nat.pow_pos (by omega))
    omega
  rw [shlRes, if_pos (vld_dig hN), if_neg (by omega)]
  by_cases h0 : dig B32 N = []
  · have := dig_nil (by decide) h0
    subst this
    rw [if_pos h0, Nat.zero_mul]
    rfl
  · rw [if_neg h0, if_neg, dig_vl (by decide)]
    · rfl
    · obtain ⟨h1, h2⟩ := bitsN_low (lim_dig N) h0 (dig_norm (by decide) N).2
      rw [dig_vl (by decide)] at h1
      have h3 : 2 ^ (bitsN (dig B32 N) - 1) * 2 ^ k ≤ N * 2 ^ k := Nat.mul_le_mul_right _ h1
      rw [← Nat.pow_add] at h3
      have := pow_below (Nat.lt_of_le_of_lt h3 h)
      omega
/-- A fraction. -/
def Frac (W : World) (v : Value) (N D : Nat) : Prop :=
  ∃ (Ao Au : Option Addr) (co cu : Nat), v = .agg #[.slice Ao (dig B32 N).length co, .slice Au (dig B32 D).length cu] ∧ (Ao = none → co = 0) ∧ (Au = none → cu = 0) ∧ Rd .u32 W Ao (dig B32 N) ∧ Rd .u32 W Au (dig B32 D)
theorem Frac.below {W W' : World} {v : Value} {N D : Nat} (h : Frac W v N D) (hb : Below W.heap.size W W') : Frac W' v N D := by
  obtain ⟨Ao, Au, co, cu, e, h1, h2, h3, h4⟩ := h
  exact ⟨Ao, Au, co, cu, e, h1, h2, h3.below hb, h4.below hb⟩
theorem Rd.far {κ : IntKind} {W : World} {A : Option Addr} {xs : List Nat} (h : Rd κ W A xs) {g j : Nat} (hne : Off A g) (u : Value) : Rd κ (W.setCell ⟨g, j, none⟩ u) A xs := h.kept (grown_set (grown_refl W (some g)) u) hne
theorem off_ge {A : Option Addr} {n g : Nat} (h : ∀ a, A = some a → n ≤ a.block) (hg : g < n) : Off A g := fun a e e2 => by have := h a e; omega
theorem own_ge {κ : IntKind} {w : World} {B n cap : Nat} {t : TypeId} {A : Option Addr} {xs : List Nat} (h : Own κ w B t (.slice A n cap) xs) : ∀ a, A = some a → B ≤ a.block := fun a e => by
  subst e
  exact (World.ownsRow.lt h a.block rfl).1
theorem len_room {N : Nat} (h : N < B32 ^ 256) : (dig B32 N).length ≤ 1000 := Nat.le_trans (len_dig h) (by decide)

set_option maxRecDepth 100000 in
set_option maxHeartbeats 2000000 in
theorem timesTwo_up (N D k : Nat) (v : Value) (w : World) (hk : k ≤ 100000) (hN : N * 2 ^ k < B32 ^ 256) (hf : Frac w v N D) :
    Calls Tryz.prog 219 #[v, .int .i64 k] w fun e w' => (∃ v', e = .returned v' ∧ Frac w' v' (N * 2 ^ k) D) ∧ Below w.heap.size w w' := by
  obtain ⟨Ao, Au, co, cu, rfl, h1, h2, h3, h4⟩ := hf
  have hN0 : N < B32 ^ 256 := by
    have : N * 1 ≤ N * 2 ^ k := Nat.mul_le_mul_left _ (Nat.pow_pos (by omega))
    omega
  have cS := fun (W : World) (h : Rd .u32 W Ao (dig B32 N)) => shl_any Ao co (dig B32 N) (k : Nat) W (lim_dig N) (len_room hN0) (by omega) (by omega) h
  rw [shl_fit hN] at cS
  have CS := Lib.hid cS
  obtain ⟨M, hM⟩ : ∃ M, N * 2 ^ k = M := ⟨_, rfl⟩
  rw [hM] at CS
  rw [hM]
  obtain ⟨n, hn⟩ : ∃ n, (dig B32 N).length = n := ⟨_, rfl⟩
  rw [hn] at CS
  rw [hn]
  have HX := Lib.hid h4
  have hbA := ((Below.refl w.heap.size w).alloc (Nat.le_refl _) (.cells #[.slice Ao n co, .slice Au (dig B32 D).length cu] 243)).alloc (by simp) (.cells #[.slice none 0 0, .slice none 0 0] 243)
  clear cS hN hN0 hM hn
  go_enter Tryz.func219, Tryz.ntmps219
  go_wp2_with fail
  refine (CS.out _ (h3.below hbA)).mono ?_
  rintro e w1 ⟨v1, rfl, hO, hB⟩
  replace hO : Own .u32 w1 _ 275 v1 (dig B32 M) := hO
  obtain ⟨Az, cz, rfl, ez⟩ := hO.slice_
  have hFh : w1.heap[w.heap.size]? = some (.cells #[.slice Ao n co, .slice Au (dig B32 D).length cu] 243 (0, 0)) :=
    (hB.block _ (by simp; omega)).trans ((Below.heap_alloc _ _ _ (by simp)).trans (heap_alloc_new w _))
  have hRh : w1.heap[w.heap.size + 1]? = some (.cells #[.slice none 0 0, .slice none 0 0] 243 (0, 0)) := by
    have h := heap_alloc_new (w.alloc (.cells #[.slice Ao n co, .slice Au (dig B32 D).length cu] 243)) (.cells #[.slice none 0 0, .slice none 0 0] 243)
    rw [World.size_alloc] at h
    exact (hB.block _ (by simp)).trans h
  have f0 := cell_of_row w1 _ 0 _ _ _ hFh
  have f1 := cell_of_row w1 _ 1 _ _ _ hFh
  have r0 := cell_of_row w1 _ 0 _ _ _ hRh
  have r1 := cell_of_row w1 _ 1 _ _ _ hRh
  have z0 := frozen_of_row w1 _ 0 _ _ hFh
  have z1 := frozen_of_row w1 _ 1 _ _ hFh
  have y0 := frozen_of_row w1 _ 0 _ _ hRh
  have y1 := frozen_of_row w1 _ 1 _ _ hRh
  have hge : ∀ a, Az = some a → w.heap.size + 2 ≤ a.block := by
    have h := own_ge hO
    rw [World.size_alloc, World.size_alloc] at h
    exact h
  have hBw := hbA.trans (hB.mono hbA.size)
  have hsz : w.heap.size + 2 ≤ w1.heap.size := by have := hB.size; rw [World.size_alloc, World.size_alloc] at this; omega
  have HO := Lib.hid hO.rd
  have HGE := Lib.hid hge
  simp only [List.getElem?_toArray, List.getElem?_cons_zero, List.getElem?_cons_succ] at f0 f1 r0 r1
  clear hO hB hFh hRh CS hbA h3 h4 hge
  go_wp2
  have hge := HGE.out
  have hBz := ((hBw.setCell (p := ⟨w.heap.size, 0, none⟩) (Nat.le_refl _) (.slice Az (dig B32 M).length cz)).setCell (p := ⟨w.heap.size + 1, 0, none⟩) (Nat.le_succ _) (.slice Az (dig B32 M).length cz)).setCell (p := ⟨w.heap.size + 1, 1, none⟩) (Nat.le_succ _) (.slice Au (dig B32 D).length cu)
  exact bodyPost_ret (v := .agg #[.slice Az (dig B32 M).length cz, .slice Au (dig B32 D).length cu]) (by simp [results, Tryz.results219, go_sem, r0, r1]) rfl ⟨⟨_, rfl, Az, Au, cz, cu, rfl, ez, h2, (((HO.out.far (off_ge hge (by omega)) _).far (off_ge hge (by omega)) _).far (off_ge hge (by omega)) _), HX.out.below hBz⟩, hBz⟩
set_option maxRecDepth 100000 in
set_option maxHeartbeats 2000000 in
theorem timesTwo_down (N D k : Nat) (v : Value) (w : World) (hk0 : 0 < k) (hk : k ≤ 100000) (hN : D * 2 ^ k < B32 ^ 256) (hf : Frac w v N D) :
    Calls Tryz.prog 219 #[v, .int .i64 (-(k : Int))] w fun e w' => (∃ v', e = .returned v' ∧ Frac w' v' N (D * 2 ^ k)) ∧ Below w.heap.size w w' := by
  obtain ⟨Ao, Au, co, cu, rfl, h1, h2, h3, h4⟩ := hf
  have hN0 : D < B32 ^ 256 := by
    have : D * 1 ≤ D * 2 ^ k := Nat.mul_le_mul_left _ (Nat.pow_pos (by omega))
    omega
  have cS := fun (W : World) (h : Rd .u32 W Au (dig B32 D)) => shl_any Au cu (dig B32 D) (k : Nat) W (lim_dig D) (len_room hN0) (by omega) (by omega) h
  rw [shl_fit hN] at cS
  have CS := Lib.hid cS
  obtain ⟨M, hM⟩ : ∃ M, D * 2 ^ k = M := ⟨_, rfl⟩
  rw [hM] at CS
  rw [hM]
  obtain ⟨n, hn⟩ : ∃ n, (dig B32 D).length = n := ⟨_, rfl⟩
  rw [hn] at CS
  rw [hn]
  have HX := Lib.hid h3
  have hkn : ¬ (0 : Int) ≤ -(k : Int) := by omega
  have hkn2 : -(k : Int) < 0 := by omega
  have hkw : IntKind.i64.wrap (-(-(k : Int))) = (k : Int) := by rw [Int.neg_neg]; exact IntWalk.i64_in _ (by omega)
  have hbA := ((Below.refl w.heap.size w).alloc (Nat.le_refl _) (.cells #[.slice Ao (dig B32 N).length co, .slice Au n cu] 243)).alloc (by simp) (.cells #[.slice none 0 0, .slice none 0 0] 243)
  clear cS hN hN0 hM hn
  go_enter Tryz.func219, Tryz.ntmps219
  go_wp2_with fail
  refine (CS.out _ (h4.below hbA)).mono ?_
  rintro e w1 ⟨v1, rfl, hO, hB⟩
  replace hO : Own .u32 w1 _ 275 v1 (dig B32 M) := hO
  obtain ⟨Az, cz, rfl, ez⟩ := hO.slice_
  have hFh : w1.heap[w.heap.size]? = some (.cells #[.slice Ao (dig B32 N).length co, .slice Au n cu] 243 (0, 0)) :=
    (hB.block _ (by simp; omega)).trans ((Below.heap_alloc _ _ _ (by simp)).trans (heap_alloc_new w _))
  have hRh : w1.heap[w.heap.size + 1]? = some (.cells #[.slice none 0 0, .slice none 0 0] 243 (0, 0)) := by
    have h := heap_alloc_new (w.alloc (.cells #[.slice Ao (dig B32 N).length co, .slice Au n cu] 243)) (.cells #[.slice none 0 0, .slice none 0 0] 243)
    rw [World.size_alloc] at h
    exact (hB.block _ (by simp)).trans h
  have f0 := cell_of_row w1 _ 0 _ _ _ hFh
  have f1 := cell_of_row w1 _ 1 _ _ _ hFh
  have r0 := cell_of_row w1 _ 0 _ _ _ hRh
  have r1 := cell_of_row w1 _ 1 _ _ _ hRh
  have z0 := frozen_of_row w1 _ 0 _ _ hFh
  have z1 := frozen_of_row w1 _ 1 _ _ hFh
  have y0 := frozen_of_row w1 _ 0 _ _ hRh
  have y1 := frozen_of_row w1 _ 1 _ _ hRh
  have hge : ∀ a, Az = some a → w.heap.size + 2 ≤ a.block := by
    have h := own_ge hO
    rw [World.size_alloc, World.size_alloc] at h
    exact h
  have hBw := hbA.trans (hB.mono hbA.size)
  have hsz : w.heap.size + 2 ≤ w1.heap.size := by have := hB.size; rw [World.size_alloc, World.size_alloc] at this; omega
  have HO := Lib.hid hO.rd
  have HGE := Lib.hid hge
  simp only [List.getElem?_toArray, List.getElem?_cons_zero, List.getElem?_cons_succ] at f0 f1 r0 r1
  clear hO hB hFh hRh CS hbA h3 h4 hge
  go_wp2
  have hge := HGE.out
  have hBz := ((hBw.setCell (p := ⟨w.heap.size, 1, none⟩) (Nat.le_refl _) (.slice Az (dig B32 M).length cz)).setCell (p := ⟨w.heap.size + 1, 0, none⟩) (Nat.le_succ _) (.slice Ao (dig B32 N).length co)).setCell (p := ⟨w.heap.size + 1, 1, none⟩) (Nat.le_succ _) (.slice Az (dig B32 M).length cz)
  exact bodyPost_ret (v := .agg #[.slice Ao (dig B32 N).length co, .slice Az (dig B32 M).length cz]) (by simp [results, Tryz.results219, go_sem, r0, r1]) rfl ⟨⟨_, rfl, Ao, Az, co, cz, rfl, h1, ez, HX.out.below hBz, (((HO.out.far (off_ge hge (by omega)) _).far (off_ge hge (by omega)) _).far (off_ge hge (by omega)) _)⟩, hBz⟩
end Go.Proofs.YtbbbdcohkfijoaaGreatDoor

namespace Go.Proofs.YtbbbdcohkfijoaaGreatDoor

/-- The number that bytes of decimal digits write, the highest first. -/
def pv : List UInt8 → Nat := fun l => l.foldl (fun a c => a * 10 + (c.toNat - 48)) 0
theorem pv_foldl (l : List UInt8) : ∀ a, l.foldl (fun a c => a * 10 + (c.toNat - 48)) a = a * 10 ^ l.length + pv l := by
  induction l with
  | nil => intro a; simp [pv]
  | cons c l ih =>
    intro a
    have h1 := ih (a * 10 + (c.toNat - 48))
    have h2 := ih (0 * 10 + (c.toNat - 48))
    simp only [List.foldl_cons, List.length_cons, pv] at h1 h2 ⊢
    rw [h1, h2, Nat.pow_succ]
    simp only [Nat.add_mul, Nat.mul_assoc, Nat.mul_comm 10]
    omega
theorem pv_append (l m : List UInt8) : pv (l ++ m) = pv l * 10 ^ m.length + pv m := by
  unfold pv
  rw [List.foldl_append, pv_foldl]
  rfl
theorem pv_nil : pv [] = 0 := rfl
theorem pv_one (c : UInt8) : pv [c] = c.toNat - 48 := by simp [pv]
theorem pv_snoc (l : List UInt8) (c : UInt8) : pv (l ++ [c]) = pv l * 10 + (c.toNat - 48) := by rw [pv_append, pv_one]; simp
/-- Decimal digits, every one. -/
def Dec (l : List UInt8) : Prop := ∀ c ∈ l, 48 ≤ c.toNat ∧ c.toNat ≤ 57
theorem dec_append {l m : List UInt8} : Dec (l ++ m) ↔ Dec l ∧ Dec m := by
  unfold Dec
  constructor
  · exact fun h => ⟨fun x hx => h x (List.mem_append_left _ hx), fun x hx => h x (List.mem_append_right _ hx)⟩
  · rintro ⟨h1, h2⟩ x hx
    rcases List.mem_append.1 hx with h | h
    · exact h1 x h
    · exact h2 x h
theorem dec_take {l : List UInt8} (h : Dec l) (k : Nat) : Dec (l.take k) := fun x hx => h x (List.mem_of_mem_take hx)
theorem dec_drop {l : List UInt8} (h : Dec l) (k : Nat) : Dec (l.drop k) := fun x hx => h x (List.mem_of_mem_drop hx)
theorem pv_cons (c : UInt8) (l : List UInt8) : pv (c :: l) = (c.toNat - 48) * 10 ^ l.length + pv l := by
  have := pv_append [c] l
  rwa [pv_one] at this
theorem pv_lt {l : List UInt8} (h : Dec l) : pv l < 10 ^ l.length := by
  induction l with
  | nil => simp [pv]
  | cons c l ih =>
    have h3 := ih (fun x hx => h x (List.mem_cons_of_mem _ hx))
    have h4 := h c List.mem_cons_self
    rw [pv_cons, List.length_cons, Nat.pow_succ]
    have : (c.toNat - 48) * 10 ^ l.length ≤ 9 * 10 ^ l.length := Nat.mul_le_mul_right _ (by omega)
    omega

/-- A digit as a byte. -/
def db (d : Nat) : UInt8 := UInt8.ofNat (48 + d)
/-- A number's decimal text. -/
def decs (n : Nat) : List UInt8 := if n = 0 then [48] else (dig 10 n).reverse.map db
end Go.Proofs.YtbbbdcohkfijoaaGreatDoor

namespace Go.Proofs.YtbbbdcohkfijoaaGreatDoor
open Go.RowKit Go.Lib

theorem ba_len (s : ByteArray) : s.data.toList.length = s.size := Array.length_toList
theorem ba_take_snoc (s : ByteArray) (k : Nat) (h : k < s.size) : s.data.toList.take (k + 1) = s.data.toList.take k ++ [s[k]] := by
  rw [List.take_succ_eq_append_getElem (by rw [ba_len]; exact h)]; rfl
theorem ba_nil {s : ByteArray} (h : s.size = 0) : s.data.toList = [] := List.eq_nil_of_length_eq_zero (by rw [ba_len]; exact h)
theorem dec_snoc {l : List UInt8} {c : UInt8} (h : Dec l) (hc : 48 ≤ c.toNat ∧ c.toNat ≤ 57) : Dec (l ++ [c]) := dec_append.2 ⟨h, fun x hx => by rw [List.mem_singleton] at hx; rw [hx]; exact hc⟩
theorem dec_at {s : ByteArray} (h : Dec s.data.toList) (k : Nat) (hk : k < s.size) : 48 ≤ s[k].toNat ∧ s[k].toNat ≤ 57 := h _ (by
  have : s[k] = s.data.toList[k]'(by rw [ba_len]; exact hk) := rfl
  rw [this]
  exact List.getElem_mem _)

/-- Is it one decimal digit or more? -/
noncomputable def isDec (s : ByteArray) : Bool := @decide (0 < s.size ∧ Dec s.data.toList) (Classical.propDecidable _)
theorem isDec_iff {s : ByteArray} : isDec s = true ↔ 0 < s.size ∧ Dec s.data.toList := by
  unfold isDec
  exact @decide_eq_true_iff _ (Classical.propDecidable _)
theorem isDec_no {s : ByteArray} : isDec s = false ↔ ¬ (0 < s.size ∧ Dec s.data.toList) := by
  unfold isDec
  exact @decide_eq_false_iff_not _ (Classical.propDecidable _)

set_option maxRecDepth 100000 in
set_option maxHeartbeats 1000000 in
theorem isDigits_any (s : ByteArray) (w : World) (hs : s.size ≤ 4194304) :
    Calls Tryz.prog 266 #[.string s] w fun e w' => e = .returned (.bool (isDec s)) ∧ w = w' := by
  go_enter Tryz.func266, Tryz.ntmps266
  go_wp2
  go_loop [6] (fun i => ∃ k : Nat, k ≤ s.size ∧ i = .int .i64 k ∧ Dec (s.data.toList.take k)) (fun i => s.size - (RowKit.intOf i).toNat)
  case atStart => exact ⟨0, Nat.zero_le _, rfl, fun _ h => by simp at h⟩
  case round =>
    obtain ⟨k, hk, rfl, hd⟩ := hrel
    by_cases hlt : k < s.size
    · by_cases h1 : s[k].toNat < 48
      · have HR := Lib.hid (show isDec s = false from isDec_no.2 (fun h => by have := (dec_at h.2 k hlt).1; omega))
        clear hd
        go_wp2
        go_ret
        exact ⟨by rw [HR.out]; rfl, rfl⟩
      · by_cases h2 : 57 < s[k].toNat
        · have HR := Lib.hid (show isDec s = false from isDec_no.2 (fun h => by have := (dec_at h.2 k hlt).2; omega))
          clear hd
          go_wp2
          go_ret
          exact ⟨by rw [HR.out]; rfl, rfl⟩
        · have hd2 := dec_snoc hd (show 48 ≤ s[k].toNat ∧ s[k].toNat ≤ 57 by omega)
          rw [← ba_take_snoc s k hlt] at hd2
          have HD := Lib.hid hd2
          clear hd hd2
          go_wp2
          go_round
          case rel => exact ⟨k + 1, hlt, by go_num, HD.out⟩
          case measure => simp [RowKit.intOf]; omega
    · obtain rfl : k = s.size := by omega
      rw [← ba_len, List.take_length] at hd
      by_cases h0 : s.size = 0
      · have HR := Lib.hid (show isDec s = false from isDec_no.2 (fun h => by omega))
        have he : s.toList = [] := by rw [Lib.toList_data]; exact ba_nil h0
        have he2 : s.toList.isEmpty = true := by rw [he]; rfl
        clear hd h0
        go_wp2
        go_ret
        exact ⟨by rw [HR.out]; rfl, rfl⟩
      · have HR := Lib.hid (show isDec s = true from isDec_iff.2 ⟨by omega, hd⟩)
        have he2 : s.toList.isEmpty = false := by
          rw [Lib.toList_data]
          cases h : s.data.toList with
          | nil => exact absurd (by rw [← ba_len, h]; rfl) h0
          | cons _ _ => rfl
        have he3 : ¬ s.toList = [] := by
          intro e; rw [e] at he2; cases he2
        clear hd h0
        go_wp2
        go_ret
        exact ⟨by rw [HR.out]; rfl, rfl⟩
end Go.Proofs.YtbbbdcohkfijoaaGreatDoor

namespace Go.Proofs.YtbbbdcohkfijoaaGreatDoor
open Go.RowKit Go.Lib

/-- What Parse answers. -/
noncomputable def parseRes (s : ByteArray) : List Nat × Int := if isDec s = true then natRes (pv s.data.toList) else ([], 30)
theorem pow10_le {i : Nat} (h : i ≤ 8) : 10 ^ i ≤ 100000000 := (Nat.pow_le_pow_right (by omega) h : 10 ^ i ≤ 10 ^ 8)
theorem pow10_le9 {i : Nat} (h : i ≤ 9) : 10 ^ i ≤ 1000000000 := (Nat.pow_le_pow_right (by omega) h : 10 ^ i ≤ 10 ^ 9)
theorem natRes_long {n : Nat} (h : ¬ (dig B32 n).length ≤ 256) : natRes n = ([], 3) := by rw [natRes, if_neg h]
theorem natRes_ok {n : Nat} (h : (dig B32 n).length ≤ 256) : natRes n = (dig B32 n, 0) := by rw [natRes, if_pos h]
theorem dig_grows {n m : Nat} (h : n ≤ m) (hn : ¬ (dig B32 n).length ≤ 256) : ¬ (dig B32 m).length ≤ 256 := by
  rw [dig_len_le (by decide)] at hn ⊢
  omega
theorem pv_take_le {l : List UInt8} (k : Nat) : pv (l.take k) ≤ pv l := by
  have h := pv_append (l.take k) (l.drop k)
  rw [List.take_append_drop] at h
  have : pv (l.take k) * 1 ≤ pv (l.take k) * 10 ^ (l.drop k).length := Nat.mul_le_mul_left _ (Nat.pow_pos (by omega))
  omega

set_option maxRecDepth 100000 in
set_option maxHeartbeats 2000000 in
theorem parse_any (s : ByteArray) (w : World) (hs : s.size ≤ 4194304) :
    Calls Tryz.prog 216 #[.string s] w (RowErr w.heap.size w (parseRes s)) := by
  have cD := isDigits_any s w hs
  by_cases hd : isDec s = true
  case neg =>
    have hf : isDec s = false := by simpa using hd
    have HR := Lib.hid (show parseRes s = ([], 30) by rw [parseRes, if_neg hd])
    rw [hf] at cD
    have CD := Lib.hid cD
    clear cD hd hf
    go_enter Tryz.func216, Tryz.ntmps216
    go_wp2_with fail
    refine CD.out.mono ?_
    rintro e w' ⟨rfl, rfl⟩
    go_wp2
    go_ret2
    exact ⟨_, by rw [HR.out]; rfl, by rw [HR.out]; exact Own.nil _ _ _, Below.refl _ _⟩
  have HR := Lib.hid (show parseRes s = natRes (pv s.data.toList) by rw [parseRes, if_pos hd])
  have hdec := (isDec_iff.1 hd).2
  rw [hd] at cD
  have CD := Lib.hid cD
  clear cD hd
  go_enter Tryz.func216, Tryz.ntmps216
  go_wp2_with fail
  refine CD.out.mono ?_
  rintro e w' ⟨rfl, rfl⟩
  clear CD
  go_wp2
  go_loopw [4, 5] (fun v q wr => ∃ (r : ByteArray) (k : Nat), k ≤ s.size ∧ q = .string r ∧ r.data.toList = s.data.toList.drop k ∧ Own .u32 wr w.heap.size 275 v (dig B32 (pv (s.data.toList.take k))) ∧ (dig B32 (pv (s.data.toList.take k))).length ≤ 256 ∧ Below w.heap.size w wr) (fun _ q _ => match q with | .string r => r.size | _ => 0)
  case atStart => exact ⟨s, 0, Nat.zero_le _, rfl, rfl, Own.nil _ _ _, Nat.zero_le _, Below.refl _ _⟩
  case round =>
    obtain ⟨r, k, hk, rfl, hr, hO, hlen, hB⟩ := hrel
    have hrl : r.size = s.size - k := by rw [← ba_len, hr, List.length_drop, ba_len]
    have HRD := Lib.hid hr
    by_cases hr0 : r.size = 0
    · have he : r.toList = [] := by rw [Lib.toList_data]; exact ba_nil hr0
      have he2 : r.toList.isEmpty = true := by rw [he]; rfl
      have hke : s.data.toList.take k = s.data.toList := by rw [List.take_of_length_le]; rw [ba_len]; omega
      rw [hke] at hO hlen
      have HN := Lib.hid (natRes_ok hlen)
      have HO := Lib.hid hO
      obtain ⟨A, cap, rfl, _⟩ := hO.slice
      clear hO hlen hke hr hr0 hrl
      go_wp2
      go_ret2
      exact ⟨_, by rw [HR.out, HN.out]; rfl, by rw [HR.out, HN.out]; exact HO.out, hB⟩
    · have he2 : r.toList.isEmpty = false := by
        rw [Lib.toList_data]
        cases h : r.data.toList with
        | nil => exact absurd (by rw [← ba_len, h]; rfl) hr0
        | cons _ _ => rfl
      have he3 : ¬ r.toList = [] := by
        intro e; rw [e] at he2; cases he2
      obtain ⟨m, hm⟩ : ∃ m, min 9 r.size = m := ⟨_, rfl⟩
      have hm1 : m ≤ 9 := by omega
      have hm2 : m ≤ r.size := by omega
      have hm0 : 0 < m := by omega
      have hmi : min (9 : Int) (r.size : Int) = (m : Int) := by omega
      have hmi2 : (if (9 : Int) ≤ (r.size : Int) then (9 : Int) else (r.size : Int)) = (m : Int) := by split <;> omega
      obtain ⟨p, hp⟩ : ∃ p, r.extract 0 m = p := ⟨_, rfl⟩
      have hps : p.size = m := by rw [← hp, ByteArray.size_extract]; omega
      have hpd : p.data.toList = (s.data.toList.drop k).take m := by rw [← hp, Lib.extract_data, List.drop_zero, hr, Nat.sub_zero]
      have HM := Lib.hid hm
      have HPD := Lib.hid hpd
      have HPS := Lib.hid hps
      have HRL := Lib.hid hrl
      have hkr : k + r.size = s.size := by omega
      have HKR := Lib.hid hkr
      clear hm hpd hr hrl hkr
      go_wp2
      have hpdec : Dec p.data.toList := by rw [HPD.out]; exact dec_take (dec_drop hdec _) _
      have HPDEC := Lib.hid hpdec
      clear hpdec
      obtain ⟨wo, rfl⟩ : ∃ wo : World, wo = wr := ⟨wr, rfl⟩
      go_loop [7, 8, 23] (fun a b i => ∃ i0 : Nat, i0 ≤ m ∧ i = .int .i64 i0 ∧ a = .int .u32 (10 ^ i0 : Nat) ∧ b = .int .u32 (pv (p.data.toList.take i0))) (fun _ _ i => m - (RowKit.intOf i).toNat)
      case atStart => exact ⟨0, Nat.zero_le _, rfl, rfl, rfl⟩
      case round =>
        obtain ⟨i, hi, rfl, rfl, rfl⟩ := hrel
        by_cases hlt : i < m
        · have hps := HPS.out
          have hc := dec_at HPDEC.out i (by omega)
          have hsn := ba_take_snoc p i (by omega)
          have hpv : pv (p.data.toList.take (i + 1)) = pv (p.data.toList.take i) * 10 + (p[i].toNat - 48) := by rw [hsn, pv_snoc]
          have hvl := pv_lt (dec_take HPDEC.out i)
          rw [List.length_take, Nat.min_eq_left (by rw [ba_len]; omega)] at hvl
          have hP8 := pow10_le (i := i) (by omega)
          have hPs : 10 ^ (i + 1) = 10 ^ i * 10 := Nat.pow_succ ..
          have hip : i < p.size := by omega
          obtain ⟨P, hP⟩ : ∃ P, 10 ^ i = P := ⟨_, rfl⟩
          obtain ⟨V, hV⟩ : ∃ V, pv (p.data.toList.take i) = V := ⟨_, rfl⟩
          rw [hP] at hvl hP8 hPs
          rw [hV] at hvl hpv
          rw [hP, hV]
          have HPV := Lib.hid hpv
          have HPS2 := Lib.hid hPs
          obtain ⟨c1, c2⟩ := hc
          clear hps hsn hpv hPs hP hV
          go_wp2
          go_round
          case rel => exact ⟨i + 1, hlt, by go_num, by rw [HPS2.out]; go_num, by rw [HPV.out]; exact vint (by omega)⟩
          case measure => simp [RowKit.intOf]; omega
        · obtain rfl : i = m := by omega
          have hpe : pv (p.data.toList.take i) = pv p.data.toList := by rw [List.take_of_length_le]; rw [ba_len, HPS.out]; exact Nat.le_refl _
          have hvl := pv_lt HPDEC.out
          rw [ba_len, HPS.out] at hvl
          have hP9 := pow10_le9 (i := i) hm1
          have hP0 : 0 < 10 ^ i := Nat.pow_pos (by omega)
          have hcat : pv (s.data.toList.take (k + i)) = pv (s.data.toList.take k) * 10 ^ i + pv p.data.toList := by
            rw [List.take_add, ← HPD.out, pv_append, ba_len, HPS.out]
          obtain ⟨A, cap, rfl, hcap⟩ := hO.slice
          have cM := mulAdd_any A cap (10 ^ i) (pv p.data.toList) w.heap.size (dig B32 (pv (s.data.toList.take k))) wo (dig_norm (by decide) _) (by omega) hP0 (by omega) (by omega) hB.size hO
          rw [dig_vl (by decide), ← hcat] at cM
          rw [hpe]
          obtain ⟨P, hP⟩ : ∃ P, 10 ^ i = P := ⟨_, rfl⟩
          obtain ⟨V, hV⟩ : ∃ V, pv p.data.toList = V := ⟨_, rfl⟩
          rw [hP, hV] at cM
          rw [hP, hV]
          have CM := Lib.hid cM
          have hle := pv_take_le (l := s.data.toList) (k + i)
          have HLE := Lib.hid hle
          have hri : i ≤ r.size := hm2
          have hrd2 : (r.extract i r.size).data.toList = s.data.toList.drop (k + i) := by
            rw [Lib.extract_data, HRD.out, List.drop_drop, List.take_of_length_le]
            rw [List.length_drop, ba_len]; have := HKR.out; omega
          have HRD2 := Lib.hid hrd2
          clear cM hpe hvl hP9 hP0 hcat hP hV hle hrd2 hO
          go_wp2_with fail
          refine CM.out.mono ?_
          rintro e w2 ⟨v2, rfl, hO2, hB2⟩
          obtain ⟨A2, cap2, rfl, hcap2⟩ := hO2.slice
          have hBz := hB.trans hB2
          obtain ⟨nl, hnl⟩ : ∃ nl, (dig B32 (pv (s.data.toList.take (k + i)))).length = nl := ⟨_, rfl⟩
          rw [hnl] at hO2 hcap2
          rw [hnl]
          have HO2 := Lib.hid hO2
          have HNL := Lib.hid hnl
          clear hO2 hB2 CM hB hnl
          by_cases hbig : 256 < nl
          · have HBIG := Lib.hid (natRes_long (dig_grows HLE.out (by rw [HNL.out]; omega)))
            go_wp2
            go_ret2
            exact ⟨_, by rw [HR.out, HBIG.out]; rfl, by rw [HR.out, HBIG.out]; exact Own.nil _ _ _, hBz⟩
          · go_wp2
            go_roundw
            case rel => exact ⟨r.extract i r.size, k + i, by have := HKR.out; omega, rfl, HRD2.out, by have h := HO2.out; rw [← HNL.out] at h; rw [← HNL.out]; exact h, by rw [HNL.out]; omega, hBz⟩
            case measure =>
              show (r.extract i r.size).size < r.size
              rw [ByteArray.size_extract]; omega
end Go.Proofs.YtbbbdcohkfijoaaGreatDoor

namespace Go.Proofs.YtbbbdcohkfijoaaGreatDoor
open Go.RowKit Go.Lib

/-- The natural nearest to a fraction; of two, the even one. -/
def rnd (N D : Nat) : Nat := if D < 2 * (N % D) ∨ (2 * (N % D) = D ∧ N / D % 2 = 1) then N / D + 1 else N / D
theorem rnd_le (N D : Nat) : rnd N D ≤ N / D + 1 := by unfold rnd; split <;> omega
theorem odd_low {n : Nat} : low64 (dig B32 n) % 2 = n % 2 := by
  rw [low64_mod (lim_dig n), dig_vl (by decide)]
  omega
set_option maxRecDepth 100000 in
set_option maxHeartbeats 2000000 in
theorem nearest_lt (N D : Nat) (v : Value) (w : World) (hN : N < B32 ^ 255) (hD : D < B32 ^ 255) (hD0 : 0 < D) (h : 2 * (N % D) < D) (hf : Frac w v N D) :
    Calls Tryz.prog 220 #[v] w (Makes .u32 275 w (dig B32 (N / D))) := by
  obtain ⟨Ao, Au, co, cu, rfl, h1, h2, h3, h4⟩ := hf
  have hpow : B32 ^ 255 * 2 ≤ B32 ^ 256 := by rw [Nat.pow_succ]; exact Nat.mul_le_mul_left _ (by decide)
  have hN2 : N < B32 ^ 256 := by omega
  have hD2 : D < B32 ^ 256 := by omega
  have hq1 : N / D ≤ N := Nat.div_le_self N D
  have hr1 : N % D < D := Nat.mod_lt N hD0
  have hd0 : dig B32 D ≠ [] := fun e => by have := dig_nil (by decide) e; omega
  have cD := fun (W : World) (a : Rd .u32 W Ao (dig B32 N)) (b : Rd .u32 W Au (dig B32 D)) => div_any Ao Au co cu (dig B32 N) (dig B32 D) W (lim_dig N) (lim_dig D) (len_room hN2) (len_room hD2) h1 a b
  have hdr : divRes (dig B32 N) (dig B32 D) = (dig B32 (N / D), dig B32 (N % D), 0) := by
    rw [divRes, if_pos ⟨vld_dig hN2, vld_dig hD2⟩, if_neg hd0, dig_vl (by decide), dig_vl (by decide)]
  rw [hdr] at cD
  obtain ⟨q, hqe⟩ : ∃ q, N / D = q := ⟨_, rfl⟩
  obtain ⟨r, hre⟩ : ∃ r, N % D = r := ⟨_, rfl⟩
  rw [hqe, hre] at cD
  rw [hqe] at hq1
  rw [hre] at hr1
  rw [hre] at h
  rw [hqe]
  have cS := fun (A1 : Option Addr) (c1 : Nat) (W : World) (a : Rd .u32 W A1 (dig B32 r)) => shl_any A1 c1 (dig B32 r) ((1 : Nat) : Int) W (lim_dig r) (len_room (by omega)) (by omega) (by omega) a
  rw [shl_fit (by rw [Nat.pow_one]; omega), Nat.pow_one] at cS
  obtain ⟨t, ht⟩ : ∃ t, r * 2 = t := ⟨_, rfl⟩
  have ht2 : t < B32 ^ 256 := by omega
  rw [ht] at cS
  have cC := fun (A1 : Option Addr) (c1 : Nat) (W : World) (a : Rd .u32 W A1 (dig B32 t)) (b : Rd .u32 W Au (dig B32 D)) => cmp_any A1 Au c1 cu (dig B32 t) (dig B32 D) W (dig_norm (by decide) t) (dig_norm (by decide) D) (Nat.le_trans (len_dig ht2) (by decide)) (Nat.le_trans (len_dig hD2) (by decide)) a b
  rw [dig_vl (by decide), dig_vl (by decide), cmpZ_lt (by omega)] at cC
  have cD' := Lib.hid cD
  have cS' := Lib.hid cS
  have cC' := Lib.hid cC
  have hbA := (Below.refl w.heap.size w).alloc (Nat.le_refl _) (.cells #[.slice Ao (dig B32 N).length co, .slice Au (dig B32 D).length cu] 243)
  have hFh := heap_alloc_new w (.cells #[.slice Ao (dig B32 N).length co, .slice Au (dig B32 D).length cu] 243)
  have hlt : w.heap.size < (w.alloc (.cells #[.slice Ao (dig B32 N).length co, .slice Au (dig B32 D).length cu] 243)).heap.size := by simp
  have f0 := cell_of_row _ _ 0 _ _ _ hFh
  have f1 := cell_of_row _ _ 1 _ _ _ hFh
  simp only [List.getElem?_toArray, List.getElem?_cons_zero, List.getElem?_cons_succ] at f0 f1
  clear cD cS cC hpow hN2 hD2 hq1 hr1 hd0 hdr hqe hre h ht ht2 hN hD hD0 hFh
  go_enter Tryz.func220, Tryz.ntmps220
  go_wp2_with fail
  refine (cD'.out _ (h3.below hbA) (h4.below hbA)).mono ?_
  rintro e w1 ⟨v1, v2, rfl, o1, o2, _, hn⟩
  replace o1 : Own .u32 w1 _ 275 v1 (dig B32 q) := o1
  replace o2 : Own .u32 w1 _ 275 v2 (dig B32 r) := o2
  obtain ⟨Aq, cq, rfl, hcq1, hcq2⟩ := o1.slice
  obtain ⟨Ar, cr, rfl, _⟩ := o2.slice_
  have f1 := (hn.cell (p := ⟨w.heap.size, 1, none⟩) hlt).trans f1
  have hF : w.heap.size < w1.heap.size := Nat.lt_of_lt_of_le hlt hn.size
  have hQ := o1.mono hbA.size
  have Qr := Lib.hid o2.rd
  have hB := hbA.trans (hn.mono hbA.size)
  clear f0 hlt hn o1 o2 hbA
  go_wp2_with fail
  refine (cS'.out _ _ _ Qr.out).mono ?_
  rintro e w2 ⟨v3, rfl, o3, hn⟩
  replace o3 : Own .u32 w2 _ 275 v3 (dig B32 t) := o3
  obtain ⟨At, ct, rfl, _⟩ := o3.slice_
  have f1 := (hn.cell (p := ⟨w.heap.size, 1, none⟩) hF).trans f1
  have hF := Nat.lt_of_lt_of_le hF hn.size
  have hQ := hQ.below hn
  have Qt := Lib.hid o3.rd
  have hB := hB.trans (hn.mono hB.size)
  clear hn o3 Qr
  go_wp2_with fail
  refine (cC'.out _ _ _ Qt.out (h4.below hB)).mono ?_
  rintro e w3 ⟨rfl, nd, hm⟩
  have hn : Below w2.heap.size w2 w3 := by rw [hm]; exact below_drewN' (Below.refl _ _) nd
  have hQ := hQ.below hn
  have hB := hB.trans (hn.mono hB.size)
  have HQ := Lib.hid hQ
  clear hn hm Qt f1 hF hQ
  go_wp2
  go_ret
  exact ⟨_, rfl, HQ.out, hB⟩
set_option maxRecDepth 100000 in
set_option maxHeartbeats 2000000 in
theorem nearest_gt (N D : Nat) (v : Value) (w : World) (hN : N < B32 ^ 255) (hD : D < B32 ^ 255) (hD0 : 0 < D) (h : D < 2 * (N % D)) (hf : Frac w v N D) :
    Calls Tryz.prog 220 #[v] w (Makes .u32 275 w (dig B32 (N / D + 1))) := by
  obtain ⟨Ao, Au, co, cu, rfl, h1, h2, h3, h4⟩ := hf
  have hpow : B32 ^ 255 * 2 ≤ B32 ^ 256 := by rw [Nat.pow_succ]; exact Nat.mul_le_mul_left _ (by decide)
  have hN2 : N < B32 ^ 256 := by omega
  have hD2 : D < B32 ^ 256 := by omega
  have hq1 : N / D ≤ N := Nat.div_le_self N D
  have hr1 : N % D < D := Nat.mod_lt N hD0
  have hd0 : dig B32 D ≠ [] := fun e => by have := dig_nil (by decide) e; omega
  have cD := fun (W : World) (a : Rd .u32 W Ao (dig B32 N)) (b : Rd .u32 W Au (dig B32 D)) => div_any Ao Au co cu (dig B32 N) (dig B32 D) W (lim_dig N) (lim_dig D) (len_room hN2) (len_room hD2) h1 a b
  have hdr : divRes (dig B32 N) (dig B32 D) = (dig B32 (N / D), dig B32 (N % D), 0) := by
    rw [divRes, if_pos ⟨vld_dig hN2, vld_dig hD2⟩, if_neg hd0, dig_vl (by decide), dig_vl (by decide)]
  rw [hdr] at cD
  obtain ⟨q, hqe⟩ : ∃ q, N / D = q := ⟨_, rfl⟩
  obtain ⟨r, hre⟩ : ∃ r, N % D = r := ⟨_, rfl⟩
  rw [hqe, hre] at cD
  rw [hqe] at hq1
  rw [hre] at hr1
  rw [hre] at h
  rw [hqe]
  have cS := fun (A1 : Option Addr) (c1 : Nat) (W : World) (a : Rd .u32 W A1 (dig B32 r)) => shl_any A1 c1 (dig B32 r) ((1 : Nat) : Int) W (lim_dig r) (len_room (by omega)) (by omega) (by omega) a
  rw [shl_fit (by rw [Nat.pow_one]; omega), Nat.pow_one] at cS
  obtain ⟨t, ht⟩ : ∃ t, r * 2 = t := ⟨_, rfl⟩
  have ht2 : t < B32 ^ 256 := by omega
  rw [ht] at cS
  have cC := fun (A1 : Option Addr) (c1 : Nat) (W : World) (a : Rd .u32 W A1 (dig B32 t)) (b : Rd .u32 W Au (dig B32 D)) => cmp_any A1 Au c1 cu (dig B32 t) (dig B32 D) W (dig_norm (by decide) t) (dig_norm (by decide) D) (Nat.le_trans (len_dig ht2) (by decide)) (Nat.le_trans (len_dig hD2) (by decide)) a b
  rw [dig_vl (by decide), dig_vl (by decide), cmpZ_gt (by omega)] at cC
  have cF := fun (W : World) => from_small 1 W (by omega)
  have cA := fun (A1 A2 : Option Addr) (c1 c2 : Nat) (W : World) (a : Rd .u32 W A1 (dig B32 q)) (b : Rd .u32 W A2 (dig B32 1)) => add_any A1 A2 c1 c2 (dig B32 q) (dig B32 1) W (lim_dig q) (lim_dig 1) (len_room (by omega)) (len_room (by omega)) a b
  have har : res2 (dig B32 q) (dig B32 1) (vl B32 (dig B32 q) + vl B32 (dig B32 1)) = (dig B32 (q + 1), 0) := by
    rw [dig_vl (by decide), dig_vl (by decide)]
    exact res2_ok (vld_dig (by omega)) (vld_dig (by omega)) (by omega)
  rw [har] at cA
  have cD' := Lib.hid cD
  have cS' := Lib.hid cS
  have cC' := Lib.hid cC
  have cF' := Lib.hid cF
  have cA' := Lib.hid cA
  have hbA := (Below.refl w.heap.size w).alloc (Nat.le_refl _) (.cells #[.slice Ao (dig B32 N).length co, .slice Au (dig B32 D).length cu] 243)
  have hFh := heap_alloc_new w (.cells #[.slice Ao (dig B32 N).length co, .slice Au (dig B32 D).length cu] 243)
  have hlt : w.heap.size < (w.alloc (.cells #[.slice Ao (dig B32 N).length co, .slice Au (dig B32 D).length cu] 243)).heap.size := by simp
  have f0 := cell_of_row _ _ 0 _ _ _ hFh
  have f1 := cell_of_row _ _ 1 _ _ _ hFh
  simp only [List.getElem?_toArray, List.getElem?_cons_zero, List.getElem?_cons_succ] at f0 f1
  clear cD cS cC cF cA hpow hN2 hD2 hq1 hr1 hd0 hdr hqe hre h ht ht2 hN hD hD0 hFh har
  go_enter Tryz.func220, Tryz.ntmps220
  go_wp2_with fail
  refine (cD'.out _ (h3.below hbA) (h4.below hbA)).mono ?_
  rintro e w1 ⟨v1, v2, rfl, o1, o2, _, hn⟩
  replace o1 : Own .u32 w1 _ 275 v1 (dig B32 q) := o1
  replace o2 : Own .u32 w1 _ 275 v2 (dig B32 r) := o2
  obtain ⟨Aq, cq, rfl, hcq1, hcq2⟩ := o1.slice
  obtain ⟨Ar, cr, rfl, _⟩ := o2.slice_
  have f1 := (hn.cell (p := ⟨w.heap.size, 1, none⟩) hlt).trans f1
  have hF : w.heap.size < w1.heap.size := Nat.lt_of_lt_of_le hlt hn.size
  have hQ := o1.mono hbA.size
  have Qr := Lib.hid o2.rd
  have hB := hbA.trans (hn.mono hbA.size)
  clear f0 hlt hn o1 o2 hbA
  go_wp2_with fail
  refine (cS'.out _ _ _ Qr.out).mono ?_
  rintro e w2 ⟨v3, rfl, o3, hn⟩
  replace o3 : Own .u32 w2 _ 275 v3 (dig B32 t) := o3
  obtain ⟨At, ct, rfl, _⟩ := o3.slice_
  have f1 := (hn.cell (p := ⟨w.heap.size, 1, none⟩) hF).trans f1
  have hF := Nat.lt_of_lt_of_le hF hn.size
  have hQ := hQ.below hn
  have Qt := Lib.hid o3.rd
  have hB := hB.trans (hn.mono hB.size)
  clear hn o3 Qr
  go_wp2_with fail
  refine (cC'.out _ _ _ Qt.out (h4.below hB)).mono ?_
  rintro e w3 ⟨rfl, nd, hm⟩
  have hn : Below w2.heap.size w2 w3 := by rw [hm]; exact below_drewN' (Below.refl _ _) nd
  have hQ := hQ.below hn
  have hB := hB.trans (hn.mono hB.size)
  have HQ := Lib.hid hQ
  clear hn hm Qt f1 hF hQ
  go_wp2_with fail
  refine (cF'.out _).mono ?_
  rintro e w4 ⟨v4, rfl, o4, hn⟩
  obtain ⟨A4, c4, rfl, _⟩ := o4.slice_
  have HQ := Lib.hid (HQ.out.below hn)
  have Q4 := Lib.hid o4.rd
  have hB := hB.trans (hn.mono hB.size)
  clear hn o4
  go_wp2_with fail
  refine (cA'.out _ _ _ _ _ HQ.out.rd Q4.out).mono ?_
  rintro e w5 ⟨v5, rfl, o5, hn⟩
  replace o5 : Own .u32 w5 w4.heap.size 275 v5 (dig B32 (q + 1)) := o5
  have HO := Lib.hid (o5.mono hB.size)
  have hB := hB.trans (hn.mono hB.size)
  clear hn o5 Q4 HQ
  go_wp2
  go_ret
  exact ⟨_, rfl, HO.out, hB⟩
set_option maxRecDepth 100000 in
set_option maxHeartbeats 2000000 in
theorem nearest_even (N D : Nat) (v : Value) (w : World) (hN : N < B32 ^ 255) (hD : D < B32 ^ 255) (hD0 : 0 < D) (h : 2 * (N % D) = D) (hq : N / D % 2 = 0) (hf : Frac w v N D) :
    Calls Tryz.prog 220 #[v] w (Makes .u32 275 w (dig B32 (N / D))) := by
  obtain ⟨Ao, Au, co, cu, rfl, h1, h2, h3, h4⟩ := hf
  have hpow : B32 ^ 255 * 2 ≤ B32 ^ 256 := by rw [Nat.pow_succ]; exact Nat.mul_le_mul_left _ (by decide)
  have hN2 : N < B32 ^ 256 := by omega
  have hD2 : D < B32 ^ 256 := by omega
  have hq1 : N / D ≤ N := Nat.div_le_self N D
  have hr1 : N % D < D := Nat.mod_lt N hD0
  have hd0 : dig B32 D ≠ [] := fun e => by have := dig_nil (by decide) e; omega
  have cD := fun (W : World) (a : Rd .u32 W Ao (dig B32 N)) (b : Rd .u32 W Au (dig B32 D)) => div_any Ao Au co cu (dig B32 N) (dig B32 D) W (lim_dig N) (lim_dig D) (len_room hN2) (len_room hD2) h1 a b
  have hdr : divRes (dig B32 N) (dig B32 D) = (dig B32 (N / D), dig B32 (N % D), 0) := by
    rw [divRes, if_pos ⟨vld_dig hN2, vld_dig hD2⟩, if_neg hd0, dig_vl (by decide), dig_vl (by decide)]
  rw [hdr] at cD
  obtain ⟨q, hqe⟩ : ∃ q, N / D = q := ⟨_, rfl⟩
  obtain ⟨r, hre⟩ : ∃ r, N % D = r := ⟨_, rfl⟩
  rw [hqe, hre] at cD
  rw [hqe] at hq1
  rw [hre] at hr1
  rw [hre] at h
  rw [hqe] at hq
  rw [hqe]
  have cS := fun (A1 : Option Addr) (c1 : Nat) (W : World) (a : Rd .u32 W A1 (dig B32 r)) => shl_any A1 c1 (dig B32 r) ((1 : Nat) : Int) W (lim_dig r) (len_room (by omega)) (by omega) (by omega) a
  rw [shl_fit (by rw [Nat.pow_one]; omega), Nat.pow_one] at cS
  obtain ⟨t, ht⟩ : ∃ t, r * 2 = t := ⟨_, rfl⟩
  have ht2 : t < B32 ^ 256 := by omega
  rw [ht] at cS
  have cC := fun (A1 : Option Addr) (c1 : Nat) (W : World) (a : Rd .u32 W A1 (dig B32 t)) (b : Rd .u32 W Au (dig B32 D)) => cmp_any A1 Au c1 cu (dig B32 t) (dig B32 D) W (dig_norm (by decide) t) (dig_norm (by decide) D) (Nat.le_trans (len_dig ht2) (by decide)) (Nat.le_trans (len_dig hD2) (by decide)) a b
  rw [dig_vl (by decide), dig_vl (by decide), cmpZ_eq (by omega)] at cC
  have cW := fun (A1 : Option Addr) (c1 : Nat) (W : World) (hc1 : (dig B32 q).length ≤ c1) (hc2 : c1 ≤ maxLen) (a : Rd .u32 W A1 (dig B32 q)) => word_any A1 c1 (dig B32 q) W (lim_dig q) (len_room (by omega)) hc1 hc2 a
  have hod : low64 (dig B32 q) % 2 = 0 := by rw [odd_low]; exact hq
  obtain ⟨l, hl⟩ : ∃ l, low64 (dig B32 q) = l := ⟨_, rfl⟩
  rw [hl] at cW hod
  have cD' := Lib.hid cD
  have cS' := Lib.hid cS
  have cC' := Lib.hid cC
  have cW' := Lib.hid cW
  have hbA := (Below.refl w.heap.size w).alloc (Nat.le_refl _) (.cells #[.slice Ao (dig B32 N).length co, .slice Au (dig B32 D).length cu] 243)
  have hFh := heap_alloc_new w (.cells #[.slice Ao (dig B32 N).length co, .slice Au (dig B32 D).length cu] 243)
  have hlt : w.heap.size < (w.alloc (.cells #[.slice Ao (dig B32 N).length co, .slice Au (dig B32 D).length cu] 243)).heap.size := by simp
  have f0 := cell_of_row _ _ 0 _ _ _ hFh
  have f1 := cell_of_row _ _ 1 _ _ _ hFh
  simp only [List.getElem?_toArray, List.getElem?_cons_zero, List.getElem?_cons_succ] at f0 f1
  clear cD cS cC cW hpow hN2 hD2 hq1 hr1 hd0 hdr hqe hre h ht ht2 hN hD hD0 hFh hl hq
  go_enter Tryz.func220, Tryz.ntmps220
  go_wp2_with fail
  refine (cD'.out _ (h3.below hbA) (h4.below hbA)).mono ?_
  rintro e w1 ⟨v1, v2, rfl, o1, o2, _, hn⟩
  replace o1 : Own .u32 w1 _ 275 v1 (dig B32 q) := o1
  replace o2 : Own .u32 w1 _ 275 v2 (dig B32 r) := o2
  obtain ⟨Aq, cq, rfl, hcq1, hcq2⟩ := o1.slice
  obtain ⟨Ar, cr, rfl, _⟩ := o2.slice_
  have f1 := (hn.cell (p := ⟨w.heap.size, 1, none⟩) hlt).trans f1
  have hF : w.heap.size < w1.heap.size := Nat.lt_of_lt_of_le hlt hn.size
  have hQ := o1.mono hbA.size
  have Qr := Lib.hid o2.rd
  have hB := hbA.trans (hn.mono hbA.size)
  clear f0 hlt hn o1 o2 hbA
  go_wp2_with fail
  refine (cS'.out _ _ _ Qr.out).mono ?_
  rintro e w2 ⟨v3, rfl, o3, hn⟩
  replace o3 : Own .u32 w2 _ 275 v3 (dig B32 t) := o3
  obtain ⟨At, ct, rfl, _⟩ := o3.slice_
  have f1 := (hn.cell (p := ⟨w.heap.size, 1, none⟩) hF).trans f1
  have hF := Nat.lt_of_lt_of_le hF hn.size
  have hQ := hQ.below hn
  have Qt := Lib.hid o3.rd
  have hB := hB.trans (hn.mono hB.size)
  clear hn o3 Qr
  go_wp2_with fail
  refine (cC'.out _ _ _ Qt.out (h4.below hB)).mono ?_
  rintro e w3 ⟨rfl, nd, hm⟩
  have hn : Below w2.heap.size w2 w3 := by rw [hm]; exact below_drewN' (Below.refl _ _) nd
  have hQ := hQ.below hn
  have hB := hB.trans (hn.mono hB.size)
  have HQ := Lib.hid hQ
  clear hn hm Qt f1 hF hQ
  go_wp2_with fail
  refine (cW'.out _ _ _ hcq1 hcq2 HQ.out.rd).mono ?_
  rintro e w' ⟨rfl, rfl⟩
  go_wp2
  go_ret
  exact ⟨_, rfl, HQ.out, hB⟩
set_option maxRecDepth 100000 in
set_option maxHeartbeats 2000000 in
theorem nearest_odd (N D : Nat) (v : Value) (w : World) (hN : N < B32 ^ 255) (hD : D < B32 ^ 255) (hD0 : 0 < D) (h : 2 * (N % D) = D) (hq : N / D % 2 = 1) (hf : Frac w v N D) :
    Calls Tryz.prog 220 #[v] w (Makes .u32 275 w (dig B32 (N / D + 1))) := by
  obtain ⟨Ao, Au, co, cu, rfl, h1, h2, h3, h4⟩ := hf
  have hpow : B32 ^ 255 * 2 ≤ B32 ^ 256 := by rw [Nat.pow_succ]; exact Nat.mul_le_mul_left _ (by decide)
  have hN2 : N < B32 ^ 256 := by omega
  have hD2 : D < B32 ^ 256 := by omega
  have hq1 : N / D ≤ N := Nat.div_le_self N D
  have hr1 : N % D < D := Nat.mod_lt N hD0
  have hd0 : dig B32 D ≠ [] := fun e => by have := dig_nil (by decide) e; omega
  have cD := fun (W : World) (a : Rd .u32 W Ao (dig B32 N)) (b : Rd .u32 W Au (dig B32 D)) => div_any Ao Au co cu (dig B32 N) (dig B32 D) W (lim_dig N) (lim_dig D) (len_room hN2) (len_room hD2) h1 a b
  have hdr : divRes (dig B32 N) (dig B32 D) = (dig B32 (N / D), dig B32 (N % D), 0) := by
    rw [divRes, if_pos ⟨vld_dig hN2, vld_dig hD2⟩, if_neg hd0, dig_vl (by decide), dig_vl (by decide)]
  rw [hdr] at cD
  obtain ⟨q, hqe⟩ : ∃ q, N / D = q := ⟨_, rfl⟩
  obtain ⟨r, hre⟩ : ∃ r, N % D = r := ⟨_, rfl⟩
  rw [hqe, hre] at cD
  rw [hqe] at hq1
  rw [hre] at hr1
  rw [hre] at h
  rw [hqe] at hq
  rw [hqe]
  have cS := fun (A1 : Option Addr) (c1 : Nat) (W : World) (a : Rd .u32 W A1 (dig B32 r)) => shl_any A1 c1 (dig B32 r) ((1 : Nat) : Int) W (lim_dig r) (len_room (by omega)) (by omega) (by omega) a
  rw [shl_fit (by rw [Nat.pow_one]; omega), Nat.pow_one] at cS
  obtain ⟨t, ht⟩ : ∃ t, r * 2 = t := ⟨_, rfl⟩
  have ht2 : t < B32 ^ 256 := by omega
  rw [ht] at cS
  have cC := fun (A1 : Option Addr) (c1 : Nat) (W : World) (a : Rd .u32 W A1 (dig B32 t)) (b : Rd .u32 W Au (dig B32 D)) => cmp_any A1 Au c1 cu (dig B32 t) (dig B32 D) W (dig_norm (by decide) t) (dig_norm (by decide) D) (Nat.le_trans (len_dig ht2) (by decide)) (Nat.le_trans (len_dig hD2) (by decide)) a b
  rw [dig_vl (by decide), dig_vl (by decide), cmpZ_eq (by omega)] at cC
  have cW := fun (A1 : Option Addr) (c1 : Nat) (W : World) (hc1 : (dig B32 q).length ≤ c1) (hc2 : c1 ≤ maxLen) (a : Rd .u32 W A1 (dig B32 q)) => word_any A1 c1 (dig B32 q) W (lim_dig q) (len_room (by omega)) hc1 hc2 a
  have hod : low64 (dig B32 q) % 2 = 1 := by rw [odd_low]; exact hq
  obtain ⟨l, hl⟩ : ∃ l, low64 (dig B32 q) = l := ⟨_, rfl⟩
  rw [hl] at cW hod
  have cF := fun (W : World) => from_small 1 W (by omega)
  have cA := fun (A1 A2 : Option Addr) (c1 c2 : Nat) (W : World) (a : Rd .u32 W A1 (dig B32 q)) (b : Rd .u32 W A2 (dig B32 1)) => add_any A1 A2 c1 c2 (dig B32 q) (dig B32 1) W (lim_dig q) (lim_dig 1) (len_room (by omega)) (len_room (by omega)) a b
  have har : res2 (dig B32 q) (dig B32 1) (vl B32 (dig B32 q) + vl B32 (dig B32 1)) = (dig B32 (q + 1), 0) := by
    rw [dig_vl (by decide), dig_vl (by decide)]
    exact res2_ok (vld_dig (by omega)) (vld_dig (by omega)) (by omega)
  rw [har] at cA
  have cD' := Lib.hid cD
  have cS' := Lib.hid cS
  have cC' := Lib.hid cC
  have cW' := Lib.hid cW
  have cF' := Lib.hid cF
  have cA' := Lib.hid cA
  have hbA := (Below.refl w.heap.size w).alloc (Nat.le_refl _) (.cells #[.slice Ao (dig B32 N).length co, .slice Au (dig B32 D).length cu] 243)
  have hFh := heap_alloc_new w (.cells #[.slice Ao (dig B32 N).length co, .slice Au (dig B32 D).length cu] 243)
  have hlt : w.heap.size < (w.alloc (.cells #[.slice Ao (dig B32 N).length co, .slice Au (dig B32 D).length cu] 243)).heap.size := by simp
  have f0 := cell_of_row _ _ 0 _ _ _ hFh
  have f1 := cell_of_row _ _ 1 _ _ _ hFh
  simp only [List.getElem?_toArray, List.getElem?_cons_zero, List.getElem?_cons_succ] at f0 f1
  clear cD cS cC cW cF cA hpow hN2 hD2 hq1 hr1 hd0 hdr hqe hre h ht ht2 hN hD hD0 hFh hl hq har
  go_enter Tryz.func220, Tryz.ntmps220
  go_wp2_with fail
  refine (cD'.out _ (h3.below hbA) (h4.below hbA)).mono ?_
  rintro e w1 ⟨v1, v2, rfl, o1, o2, _, hn⟩
  replace o1 : Own .u32 w1 _ 275 v1 (dig B32 q) := o1
  replace o2 : Own .u32 w1 _ 275 v2 (dig B32 r) := o2
  obtain ⟨Aq, cq, rfl, hcq1, hcq2⟩ := o1.slice
  obtain ⟨Ar, cr, rfl, _⟩ := o2.slice_
  have f1 := (hn.cell (p := ⟨w.heap.size, 1, none⟩) hlt).trans f1
  have hF : w.heap.size < w1.heap.size := Nat.lt_of_lt_of_le hlt hn.size
  have hQ := o1.mono hbA.size
  have Qr := Lib.hid o2.rd
  have hB := hbA.trans (hn.mono hbA.size)
  clear f0 hlt hn o1 o2 hbA
  go_wp2_with fail
  refine (cS'.out _ _ _ Qr.out).mono ?_
  rintro e w2 ⟨v3, rfl, o3, hn⟩
  replace o3 : Own .u32 w2 _ 275 v3 (dig B32 t) := o3
  obtain ⟨At, ct, rfl, _⟩ := o3.slice_
  have f1 := (hn.cell (p := ⟨w.heap.size, 1, none⟩) hF).trans f1
  have hF := Nat.lt_of_lt_of_le hF hn.size
  have hQ := hQ.below hn
  have Qt := Lib.hid o3.rd
  have hB := hB.trans (hn.mono hB.size)
  clear hn o3 Qr
  go_wp2_with fail
  refine (cC'.out _ _ _ Qt.out (h4.below hB)).mono ?_
  rintro e w3 ⟨rfl, nd, hm⟩
  have hn : Below w2.heap.size w2 w3 := by rw [hm]; exact below_drewN' (Below.refl _ _) nd
  have hQ := hQ.below hn
  have hB := hB.trans (hn.mono hB.size)
  have HQ := Lib.hid hQ
  clear hn hm Qt f1 hF hQ
  go_wp2_with fail
  refine (cW'.out _ _ _ hcq1 hcq2 HQ.out.rd).mono ?_
  rintro e w' ⟨rfl, rfl⟩
  go_wp2_with fail
  refine (cF'.out _).mono ?_
  rintro e w4 ⟨v4, rfl, o4, hn⟩
  obtain ⟨A4, c4, rfl, _⟩ := o4.slice_
  have HQ := Lib.hid (HQ.out.below hn)
  have Q4 := Lib.hid o4.rd
  have hB := hB.trans (hn.mono hB.size)
  clear hn o4
  go_wp2_with fail
  refine (cA'.out _ _ _ _ _ HQ.out.rd Q4.out).mono ?_
  rintro e w5 ⟨v5, rfl, o5, hn⟩
  replace o5 : Own .u32 w5 w4.heap.size 275 v5 (dig B32 (q + 1)) := o5
  have HO := Lib.hid (o5.mono hB.size)
  have hB := hB.trans (hn.mono hB.size)
  clear hn o5 Q4 HQ
  go_wp2
  go_ret
  exact ⟨_, rfl, HO.out, hB⟩
theorem nearest_any (N D : Nat) (v : Value) (w : World) (hN : N < B32 ^ 255) (hD : D < B32 ^ 255) (hD0 : 0 < D) (hf : Frac w v N D) :
    Calls Tryz.prog 220 #[v] w (Makes .u32 275 w (dig B32 (rnd N D))) := by
  unfold rnd
  rcases Nat.lt_trichotomy (2 * (N % D)) D with h | h | h
  · rw [if_neg (by omega)]; exact nearest_lt N D v w hN hD hD0 h hf
  · rcases Nat.mod_two_eq_zero_or_one (N / D) with hq | hq
    · rw [if_neg (by omega)]; exact nearest_even N D v w hN hD hD0 h hq hf
    · rw [if_pos (.inr ⟨h, hq⟩)]; exact nearest_odd N D v w hN hD hD0 h hq hf
  · rw [if_pos (.inl h)]; exact nearest_gt N D v w hN hD hD0 h hf
end Go.Proofs.YtbbbdcohkfijoaaGreatDoor

namespace Go.Proofs.YtbbbdcohkfijoaaGreatDoor
open Go.RowKit Go.Lib

theorem repeat_zero (k : Nat) : Lib.repeatL [48] k = List.replicate k (48 : UInt8) := by
  induction k with
  | zero => rfl
  | succ k ih =>
    show [48] ++ Lib.repeatL [48] k = _
    rw [ih, List.replicate_succ]
    rfl
theorem pv_zeros (k : Nat) : pv (List.replicate k (48 : UInt8)) = 0 := by
  induction k with
  | zero => rfl
  | succ k ih => rw [List.replicate_succ, pv_cons, ih]; simp
theorem pv_ten (k : Nat) : pv (49 :: List.replicate k (48 : UInt8)) = 10 ^ k := by
  rw [pv_cons, pv_zeros, List.length_replicate]
  show (49 - 48) * 10 ^ k + 0 = 10 ^ k
  omega
/-- A one and noughts. -/
def tenB (k : Nat) : ByteArray := ⟨#[49]⟩ ++ ⟨(Lib.repeatL [48] k).toArray⟩
theorem tenB_list (k : Nat) : (tenB k).data.toList = 49 :: List.replicate k (48 : UInt8) := by
  unfold tenB
  rw [ByteArray.data_append, Array.toList_append, repeat_zero]
  rfl
theorem tenB_size (k : Nat) : (tenB k).size = k + 1 := by rw [← ba_len, tenB_list]; simp
theorem tenB_parse {k : Nat} (h : 10 ^ k < B32 ^ 256) : parseRes (tenB k) = (dig B32 (10 ^ k), 0) := by
  have hd : isDec (tenB k) = true := isDec_iff.2 ⟨by rw [tenB_size]; omega, by
    rw [tenB_list]
    intro c hc
    rcases List.mem_cons.1 hc with rfl | hc
    · decide
    · rw [(List.mem_replicate.1 hc).2]; decide⟩
  rw [parseRes, if_pos hd, tenB_list, pv_ten, natRes_ok (len_dig h)]
set_option maxRecDepth 100000 in
set_option maxHeartbeats 1000000 in
theorem ten_any (k : Nat) (w : World) (hk : k ≤ 2400) (h : 10 ^ k < B32 ^ 256) : Calls Tryz.prog 244 #[.int .i64 k] w (Makes .u32 275 w (dig B32 (10 ^ k))) := by
  have cR := Tryz.strings_Repeat ⟨#[48]⟩ k w (by omega) (by show 1 * k ≤ _; omega)
  have cP := fun (W : World) => parse_any (tenB k) W (by rw [tenB_size]; omega)
  rw [tenB_parse h] at cP
  have hzs : (⟨(Lib.repeatL [48] k).toArray⟩ : ByteArray).size ≤ 2400 := by rw [← ba_len]; show (Lib.repeatL [48] k).length ≤ _; rw [repeat_zero]; simp; omega
  have HT := Lib.hid (show (⟨#[49]⟩ : ByteArray) ++ ⟨(Lib.repeatL [48] k).toArray⟩ = tenB k from rfl)
  replace cR : Calls Tryz.prog 189 #[.string ⟨#[48]⟩, .int .i64 k] w fun e w' => e = .returned (.string ⟨(Lib.repeatL [48] k).toArray⟩) ∧ Below w.heap.size w w' := cR
  obtain ⟨Z, hZ⟩ : ∃ Z : ByteArray, ⟨(Lib.repeatL [48] k).toArray⟩ = Z := ⟨_, rfl⟩
  rw [hZ] at cR HT hzs
  obtain ⟨M, hM⟩ : ∃ M, 10 ^ k = M := ⟨_, rfl⟩
  rw [hM] at cP
  rw [hM]
  have CR := Lib.hid cR
  have CP := Lib.hid cP
  clear cR cP hZ hM h
  go_enter Tryz.func244, Tryz.ntmps244
  go_wp2_with fail
  refine CR.out.mono ?_
  rintro e w1 ⟨rfl, hB⟩
  have ht := HT.out
  go_wp2_with fail
  refine (CP.out _).mono ?_
  rintro e w2 ⟨v2, rfl, hO, hn⟩
  replace hO : Own .u32 w2 w1.heap.size 275 v2 (dig B32 M) := hO
  have HO := Lib.hid (hO.mono hB.size)
  have hB := hB.trans (hn.mono hB.size)
  clear hn hO ht
  go_wp2
  go_ret
  exact ⟨_, rfl, HO.out, hB⟩
end Go.Proofs.YtbbbdcohkfijoaaGreatDoor

namespace Go.Proofs.YtbbbdcohkfijoaaGreatDoor
open Go.RowKit Go.Lib

theorem mul_fit {N M : Nat} (hN : N < B32 ^ 256) (hM : M < B32 ^ 256) (h : N * M < B32 ^ 256) : res2 (dig B32 N) (dig B32 M) (vl B32 (dig B32 N) * vl B32 (dig B32 M)) = (dig B32 (N * M), 0) := by
  rw [dig_vl (by decide), dig_vl (by decide)]
  exact res2_ok (vld_dig hN) (vld_dig hM) h
/-- A block of two cells that is there. -/
structure Two (W : World) (g : Nat) (a b : Value) (t : TypeId) : Prop where
  row : W.heap[g]? = some (.cells #[a, b] t (0, 0))
theorem Two.facts {W : World} {g : Nat} {a b : Value} {t : TypeId} (h : Two W g a b t) : W.cell? ⟨g, 0, none⟩ = some a ∧ W.cell? ⟨g, 1, none⟩ = some b ∧ W.frozen? ⟨g, 0, none⟩ = false ∧ W.frozen? ⟨g, 1, none⟩ = false ∧ g < W.heap.size := by
  have h0 := cell_of_row W _ 0 _ _ _ h.row
  have h1 := cell_of_row W _ 1 _ _ _ h.row
  simp only [List.getElem?_toArray, List.getElem?_cons_zero, List.getElem?_cons_succ] at h0 h1
  exact ⟨h0, h1, frozen_of_row W _ 0 _ _ h.row, frozen_of_row W _ 1 _ _ h.row, (Array.getElem?_eq_some_iff.1 h.row).1⟩
theorem Two.below {W W' : World} {g : Nat} {a b : Value} {t : TypeId} (h : Two W g a b t) (hb : Below W.heap.size W W') : Two W' g a b t := ⟨(hb.block g (Array.getElem?_eq_some_iff.1 h.row).1).trans h.row⟩
theorem Two.new (w : World) (a b : Value) (t : TypeId) : Two (w.alloc (.cells #[a, b] t)) w.heap.size a b t := ⟨heap_alloc_new w _⟩
theorem Two.alloc {W : World} {g : Nat} {a b : Value} {t : TypeId} (h : Two W g a b t) (o : Obj) : Two (W.alloc o) g a b t := ⟨(Below.heap_alloc W o g (Array.getElem?_eq_some_iff.1 h.row).1).trans h.row⟩

set_option maxRecDepth 100000 in
set_option maxHeartbeats 4000000 in
theorem timesTen_up (N D k : Nat) (v : Value) (w : World) (hk : k ≤ 2400) (h10 : 10 ^ k < B32 ^ 256) (hN0 : N < B32 ^ 256) (hN : N * 10 ^ k < B32 ^ 256) (hf : Frac w v N D) :
    Calls Tryz.prog 194 #[v, .int .i64 k] w fun e w' => (∃ v', e = .returned v' ∧ Frac w' v' (N * 10 ^ k) D) ∧ Below w.heap.size w w' := by
  obtain ⟨Ao, Au, co, cu, rfl, h1, h2, h3, h4⟩ := hf
  have cT := fun (W : World) => ten_any k W hk h10
  have cM := fun (A2 : Option Addr) (c2 : Nat) (W : World) (a : Rd .u32 W Ao (dig B32 N)) (b : Rd .u32 W A2 (dig B32 (10 ^ k))) => mul_any Ao A2 co c2 (dig B32 N) (dig B32 (10 ^ k)) W (lim_dig _) (lim_dig _) (len_room hN0) (len_room h10) a b
  rw [mul_fit hN0 h10 hN] at cM
  obtain ⟨M, hM⟩ : ∃ M, N * 10 ^ k = M := ⟨_, rfl⟩
  rw [hM] at cM
  rw [hM]
  obtain ⟨T, hT⟩ : ∃ T, 10 ^ k = T := ⟨_, rfl⟩
  rw [hT] at cT cM
  have CT := Lib.hid cT
  have CM := Lib.hid cM
  obtain ⟨n, hn⟩ : ∃ n, (dig B32 N).length = n := ⟨_, rfl⟩
  rw [hn] at CM
  rw [hn]
  have HX := Lib.hid h4
  have HA := Lib.hid h3
  have hbA := ((Below.refl w.heap.size w).alloc (Nat.le_refl _) (.cells #[.slice Ao n co, .slice Au (dig B32 D).length cu] 243)).alloc (by simp) (.cells #[.slice none 0 0, .slice none 0 0] 243)
  have tF := (Two.new w (.slice Ao n co) (.slice Au (dig B32 D).length cu) 243).alloc (.cells #[.slice none 0 0, .slice none 0 0] 243)
  have tR := Two.new (w.alloc (.cells #[.slice Ao n co, .slice Au (dig B32 D).length cu] 243)) (.slice none 0 0) (.slice none 0 0) 243
  rw [World.size_alloc] at tR
  have hsz : ((w.alloc (.cells #[.slice Ao n co, .slice Au (dig B32 D).length cu] 243)).alloc (.cells #[.slice none 0 0, .slice none 0 0] 243)).heap.size = w.heap.size + 2 := by rw [World.size_alloc, World.size_alloc]
  obtain ⟨W2, hW2⟩ : ∃ W2, (w.alloc (.cells #[.slice Ao n co, .slice Au (dig B32 D).length cu] 243)).alloc (.cells #[.slice none 0 0, .slice none 0 0] 243) = W2 := ⟨_, rfl⟩
  rw [hW2] at hbA tF tR hsz
  have HW2 := Lib.hid hW2
  have HSZ := Lib.hid hsz
  obtain ⟨f0, f1, z0, z1, fl⟩ := tF.facts
  have HTF := Lib.hid tF
  have HTR := Lib.hid tR
  clear cT cM hN hN0 h10 hM hT hn h3 h4 tF tR hW2 hsz fl
  go_enter Tryz.func194, Tryz.ntmps194
  go_wp2
  rw [HW2.out]
  have hR := Below.refl W2.heap.size W2
  go_region_with (first
    | (go_at_call 244; (with_reducible refine (CT.out _).mono ?_); rintro e W3 ⟨v3, rfl, o3, n3⟩; obtain ⟨A3, c3, rfl, _⟩ := o3.slice_; have b3 : Below W2.heap.size W2 W3 := hR.drew.trans n3; have Q3 := Lib.hid o3.rd; obtain ⟨f0, f1, z0, z1, _⟩ := (HTF.out.below b3).facts; clear n3 o3)
    | (go_at_call 243; (with_reducible refine (CM.out _ _ _ (HA.out.below (hbA.trans (b3.mono hbA.size))) Q3.out).mono ?_); rintro e W4 ⟨v4, rfl, o4, n4⟩; replace o4 : Own .u32 W4 W3.heap.size 275 v4 (dig B32 M) := o4; have o4 := o4.mono b3.size; obtain ⟨Az, cz, rfl, ez⟩ := o4.slice_; have b4 : Below W2.heap.size W2 W4 := b3.trans (n4.mono b3.size); have HO := Lib.hid o4.rd; have HGE := Lib.hid (own_ge o4); obtain ⟨f0, f1, z0, z1, _⟩ := (HTF.out.below b4).facts; obtain ⟨r0, r1, y0, y1, _⟩ := (HTR.out.below b4).facts; clear n4 o4))
  all_goals
    have hsz4 : w.heap.size + 2 ≤ W4.heap.size := by have := b4.size; have := HSZ.out; omega
    go_wp2
    have hge := HGE.out
    rw [HSZ.out] at hge
    have hBw := hbA.trans (b4.mono hbA.size)
    have hBz := ((hBw.setCell (p := ⟨w.heap.size, 0, none⟩) (Nat.le_refl _) (.slice Az (dig B32 M).length cz)).setCell (p := ⟨w.heap.size + 1, 0, none⟩) (Nat.le_succ _) (.slice Az (dig B32 M).length cz)).setCell (p := ⟨w.heap.size + 1, 1, none⟩) (Nat.le_succ _) (.slice Au (dig B32 D).length cu)
    exact bodyPost_ret (v := .agg #[.slice Az (dig B32 M).length cz, .slice Au (dig B32 D).length cu]) (by simp [results, Tryz.results194, go_sem, r0, r1]) rfl ⟨⟨_, rfl, Az, Au, cz, cu, rfl, ez, h2, (((HO.out.far (off_ge hge (by omega)) _).far (off_ge hge (by omega)) _).far (off_ge hge (by omega)) _), HX.out.below hBz⟩, hBz⟩
set_option maxRecDepth 100000 in
set_option maxHeartbeats 4000000 in
theorem timesTen_down (N D k : Nat) (v : Value) (w : World) (hk0 : 0 < k) (hk : k ≤ 2400) (h10 : 10 ^ k < B32 ^ 256) (hN0 : D < B32 ^ 256) (hN : D * 10 ^ k < B32 ^ 256) (hf : Frac w v N D) :
    Calls Tryz.prog 194 #[v, .int .i64 (-(k : Int))] w fun e w' => (∃ v', e = .returned v' ∧ Frac w' v' N (D * 10 ^ k)) ∧ Below w.heap.size w w' := by
  obtain ⟨Ao, Au, co, cu, rfl, h1, h2, h3, h4⟩ := hf
  have cT := fun (W : World) => ten_any k W hk h10
  have cM := fun (A2 : Option Addr) (c2 : Nat) (W : World) (a : Rd .u32 W Au (dig B32 D)) (b : Rd .u32 W A2 (dig B32 (10 ^ k))) => mul_any Au A2 cu c2 (dig B32 D) (dig B32 (10 ^ k)) W (lim_dig _) (lim_dig _) (len_room hN0) (len_room h10) a b
  rw [mul_fit hN0 h10 hN] at cM
  obtain ⟨M, hM⟩ : ∃ M, D * 10 ^ k = M := ⟨_, rfl⟩
  rw [hM] at cM
  rw [hM]
  obtain ⟨T, hT⟩ : ∃ T, 10 ^ k = T := ⟨_, rfl⟩
  rw [hT] at cT cM
  have CT := Lib.hid cT
  have CM := Lib.hid cM
  obtain ⟨n, hn⟩ : ∃ n, (dig B32 D).length = n := ⟨_, rfl⟩
  rw [hn] at CM
  rw [hn]
  have HX := Lib.hid h3
  have HA := Lib.hid h4
  have hkn : ¬ (0 : Int) ≤ -(k : Int) := by omega
  have hkn2 : -(k : Int) < 0 := by omega
  have hkw : IntKind.i64.wrap (-(-(k : Int))) = (k : Int) := by rw [Int.neg_neg]; exact IntWalk.i64_in _ (by omega)
  have hkw2 : IntKind.i64.wrap (k : Int) = (k : Int) := IntWalk.i64_in _ (by omega)
  have hbA := ((Below.refl w.heap.size w).alloc (Nat.le_refl _) (.cells #[.slice Ao (dig B32 N).length co, .slice Au n cu] 243)).alloc (by simp) (.cells #[.slice none 0 0, .slice none 0 0] 243)
  have tF := (Two.new w (.slice Ao (dig B32 N).length co) (.slice Au n cu) 243).alloc (.cells #[.slice none 0 0, .slice none 0 0] 243)
  have tR := Two.new (w.alloc (.cells #[.slice Ao (dig B32 N).length co, .slice Au n cu] 243)) (.slice none 0 0) (.slice none 0 0) 243
  rw [World.size_alloc] at tR
  have hsz : ((w.alloc (.cells #[.slice Ao (dig B32 N).length co, .slice Au n cu] 243)).alloc (.cells #[.slice none 0 0, .slice none 0 0] 243)).heap.size = w.heap.size + 2 := by rw [World.size_alloc, World.size_alloc]
  obtain ⟨W2, hW2⟩ : ∃ W2, (w.alloc (.cells #[.slice Ao (dig B32 N).length co, .slice Au n cu] 243)).alloc (.cells #[.slice none 0 0, .slice none 0 0] 243) = W2 := ⟨_, rfl⟩
  rw [hW2] at hbA tF tR hsz
  have HW2 := Lib.hid hW2
  have HSZ := Lib.hid hsz
  obtain ⟨f0, f1, z0, z1, fl⟩ := tF.facts
  have HTF := Lib.hid tF
  have HTR := Lib.hid tR
  clear cT cM hN hN0 h10 hM hT hn h3 h4 tF tR hW2 hsz fl
  go_enter Tryz.func194, Tryz.ntmps194
  go_wp2
  rw [HW2.out]
  have hR := Below.refl W2.heap.size W2
  go_region_with (first
    | (go_at_call 244; (with_reducible refine (CT.out _).mono ?_); rintro e W3 ⟨v3, rfl, o3, n3⟩; obtain ⟨A3, c3, rfl, _⟩ := o3.slice_; have b3 : Below W2.heap.size W2 W3 := hR.drew.trans n3; have Q3 := Lib.hid o3.rd; obtain ⟨f0, f1, z0, z1, _⟩ := (HTF.out.below b3).facts; clear n3 o3)
    | (go_at_call 243; (with_reducible refine (CM.out _ _ _ (HA.out.below (hbA.trans (b3.mono hbA.size))) Q3.out).mono ?_); rintro e W4 ⟨v4, rfl, o4, n4⟩; replace o4 : Own .u32 W4 W3.heap.size 275 v4 (dig B32 M) := o4; have o4 := o4.mono b3.size; obtain ⟨Az, cz, rfl, ez⟩ := o4.slice_; have b4 : Below W2.heap.size W2 W4 := b3.trans (n4.mono b3.size); have HO := Lib.hid o4.rd; have HGE := Lib.hid (own_ge o4); obtain ⟨f0, f1, z0, z1, _⟩ := (HTF.out.below b4).facts; obtain ⟨r0, r1, y0, y1, _⟩ := (HTR.out.below b4).facts; clear n4 o4))
  all_goals
    have hsz4 : w.heap.size + 2 ≤ W4.heap.size := by have := b4.size; have := HSZ.out; omega
    go_wp2
    have hge := HGE.out
    rw [HSZ.out] at hge
    have hBw := hbA.trans (b4.mono hbA.size)
    have hBz := ((hBw.setCell (p := ⟨w.heap.size, 1, none⟩) (Nat.le_refl _) (.slice Az (dig B32 M).length cz)).setCell (p := ⟨w.heap.size + 1, 0, none⟩) (Nat.le_succ _) (.slice Ao (dig B32 N).length co)).setCell (p := ⟨w.heap.size + 1, 1, none⟩) (Nat.le_succ _) (.slice Az (dig B32 M).length cz)
    exact bodyPost_ret (v := .agg #[.slice Ao (dig B32 N).length co, .slice Az (dig B32 M).length cz]) (by simp [results, Tryz.results194, go_sem, r0, r1]) rfl ⟨⟨_, rfl, Ao, Az, co, cz, rfl, h1, ez, HX.out.below hBz, (((HO.out.far (off_ge hge (by omega)) _).far (off_ge hge (by omega)) _).far (off_ge hge (by omega)) _)⟩, hBz⟩
end Go.Proofs.YtbbbdcohkfijoaaGreatDoor

namespace Go.Proofs.YtbbbdcohkfijoaaGreatDoor
open Go.RowKit Go.Lib

/-- The bits without the sign. -/
def mag (b : Nat) : Nat := b % 9223372036854775808
theorem run_f64bits (b : Nat) (W : World) : (callFunc 60 #[.float .f64 b]).run Tryz.prog W = .ok (.value (.int .u64 b)) W := by
  rw [run_callFunc_extern Tryz.func60 (by kernel_rfl) (by kernel_rfl) (by kernel_rfl) (e := Extern.MathFloatBits.float64bits) (by kernel_rfl)]
  rfl
theorem run_f64from (n : Nat) (W : World) : (callFunc 14 #[.int .u64 n]).run Tryz.prog W = .ok (.value (.float .f64 n)) W := by
  rw [run_callFunc_extern Tryz.func14 (by kernel_rfl) (by kernel_rfl) (by kernel_rfl) (e := Extern.MathFloatBits.float64frombits) (by kernel_rfl)]
  rfl
theorem mag_bits (b : Nat) (hb : b < 18446744073709551616) : bits .andNot .u64 (b : Int) 9223372036854775808 = ((mag b : Nat) : Int) := by
  have h := u64_andNot_nat b 9223372036854775808 hb (by omega)
  rw [show (18446744073709551615 : Nat) - 9223372036854775808 = 2 ^ 63 - 1 by decide, Nat.and_two_pow_sub_one_eq_mod] at h
  exact h
set_option maxRecDepth 100000 in
theorem abs_any (b : Nat) (w : World) (hb : b < 18446744073709551616) : Calls Tryz.prog 59 #[.float .f64 b] w fun e w' => e = .returned (.float .f64 (mag b)) ∧ w = w' := by
  have h1 := fun W => run_f64bits b W
  have h2 := fun W => run_f64from (mag b) W
  have h3 := mag_bits b hb
  go_enter Tryz.func59, Tryz.ntmps59
  go_wp2
  go_ret
  exact ⟨rfl, rfl⟩
def nanB (b : Nat) : Bool := FloatKind.f64.format.order b b != some .eq
def infB (b : Nat) : Bool := FloatKind.f64.format.order (mag b) 9218868437227405311 == some .gt
theorem isNaN_any (b : Nat) (w : World) : Calls Tryz.prog 127 #[.float .f64 b] w fun e w' => e = .returned (.bool (nanB b)) ∧ w = w' := by
  have h : (FloatKind.f64.format.order b b != some .eq) = nanB b := rfl
  go_enter Tryz.func127, Tryz.ntmps127
  go_wp2
  go_ret
  exact ⟨rfl, rfl⟩
set_option maxRecDepth 100000 in
theorem isInf_any (b : Nat) (w : World) (hb : b < 18446744073709551616) : Calls Tryz.prog 128 #[.float .f64 b, .int .i64 0] w fun e w' => e = .returned (.bool (infB b)) ∧ w = w' := by
  have CA := Lib.hid (abs_any b w hb)
  have h : (FloatKind.f64.format.order (mag b) 9218868437227405311 == some .gt) = infB b := rfl
  go_enter Tryz.func128, Tryz.ntmps128
  go_wp2_with fail
  refine CA.out.mono ?_
  rintro e w' ⟨rfl, rfl⟩
  go_wp2
  go_ret
  exact ⟨rfl, rfl⟩
end Go.Proofs.YtbbbdcohkfijoaaGreatDoor

namespace Go.Proofs.YtbbbdcohkfijoaaGreatDoor
open Go.RowKit Go.Lib

theorem dbl_sign : Ieee.double.signWeight = 9223372036854775808 := by decide
theorem dbl_binade : Ieee.double.binade = 4503599627370496 := by decide
theorem dbl_inf : Ieee.double.infRung = 9218868437227405312 := by decide
theorem dbl_least : Ieee.double.leastPlace = -1074 := by decide
/-- A finite float's natural and power. -/
def manF (r : Nat) : Nat := if r < 4503599627370496 then r else 4503599627370496 + r % 4503599627370496
def expF (r : Nat) : Int := if r < 4503599627370496 then -1074 else -1074 + ((r / 4503599627370496 - 1 : Nat) : Int)
theorem read_fin {b : Nat} (h : mag b < 9218868437227405312) : Ieee.double.read b = .number (b / 9223372036854775808 % 2 == 1) (manF (mag b)) (expF (mag b)) := by
  unfold Ieee.Format.read manF expF mag at *
  simp only [dbl_sign, dbl_binade, dbl_inf, dbl_least]
  split
  · rfl
  · rfl
theorem read_inf {b : Nat} (h : mag b = 9218868437227405312) : Ieee.double.read b = .infinity (b / 9223372036854775808 % 2 == 1) := by
  unfold Ieee.Format.read mag at *
  simp only [dbl_sign, dbl_binade, dbl_inf]
  rw [if_neg (by omega), if_neg (by omega), if_pos h]
theorem read_nan {b : Nat} (h : 9218868437227405312 < mag b) : Ieee.double.read b = .nan (b / 9223372036854775808 % 2 == 1) (mag b - 9218868437227405312) := by
  unfold Ieee.Format.read mag at *
  simp only [dbl_sign, dbl_binade, dbl_inf]
  rw [if_neg (by omega), if_neg (by omega), if_neg (by omega)]
theorem nan_no {b : Nat} (h : mag b ≤ 9218868437227405312) : nanB b = false := by
  show (Ieee.double.order b b != some .eq) = false
  unfold Ieee.Format.order
  rcases Nat.lt_or_ge (mag b) 9218868437227405312 with h1 | h1
  · rw [read_fin h1]
    simp [Ieee.Datum.order]
  · rw [read_inf (by omega)]
    simp [Ieee.Datum.order]
theorem nan_yes {b : Nat} (h : 9218868437227405312 < mag b) : nanB b = true := by
  show (Ieee.double.order b b != some .eq) = true
  unfold Ieee.Format.order
  rw [read_nan h]
  rfl
theorem mag_mag (b : Nat) : mag (mag b) = mag b := by unfold mag; omega
theorem mag_sign (b : Nat) : mag b / 9223372036854775808 % 2 = 0 := by unfold mag; omega
theorem read_max : Ieee.double.read 9218868437227405311 = .number false 9007199254740991 971 := by decide
theorem inf_no {b : Nat} (h : mag b < 9218868437227405312) : infB b = false := by
  show (Ieee.double.order (mag b) 9218868437227405311 == some .gt) = false
  unfold Ieee.Format.order
  rw [read_fin (by rw [mag_mag]; exact h), read_max, mag_sign, mag_mag]
  have hm : manF (mag b) ≤ 9007199254740991 := by unfold manF; split <;> omega
  have he : expF (mag b) ≤ 971 := by unfold expF; split <;> omega
  have hmin : min (expF (mag b)) 971 = expF (mag b) := by omega
  show (some (compare _ _) == some Ordering.gt) = false
  rw [hmin, Int.sub_self]
  have h1 : Ieee.signed (0 == 1) (manF (mag b)) (0 : Int).toNat = (manF (mag b) : Int) := by
    show ((manF (mag b) <<< 0 : Nat) : Int) = _
    rw [Nat.shiftLeft_zero]
  have h2 : (9007199254740991 : Int) ≤ Ieee.signed false 9007199254740991 (971 - expF (mag b)).toNat := by
    show _ ≤ ((9007199254740991 <<< _ : Nat) : Int)
    rw [Nat.shiftLeft_eq]
    have : 9007199254740991 * 1 ≤ 9007199254740991 * 2 ^ (971 - expF (mag b)).toNat := Nat.mul_le_mul_left _ (Nat.pow_pos (by omega))
    omega
  rw [h1]
  have h3 : compare (manF (mag b) : Int) (Ieee.signed false 9007199254740991 (971 - expF (mag b)).toNat) ≠ .gt := by
    intro e
    have := Int.compare_eq_gt.1 e
    omega
  cases hc : compare (manF (mag b) : Int) (Ieee.signed false 9007199254740991 (971 - expF (mag b)).toNat) with
  | lt => rfl
  | eq => rfl
  | gt => exact absurd hc h3
end Go.Proofs.YtbbbdcohkfijoaaGreatDoor

namespace Go.Proofs.YtbbbdcohkfijoaaGreatDoor
open Go.RowKit Go.Lib

theorem two_lt (a b : Nat) (h : a < 32 * b) : 2 ^ a < B32 ^ b := by
  have e : B32 = 2 ^ 32 := by decide
  rw [e, ← Nat.pow_mul]
  exact Nat.pow_lt_pow_right (by omega) h
/-- A row of numbers is not touched by a store where no number is. -/
theorem Rd.other {κ : IntKind} {W : World} {A : Option Addr} {xs : List Nat} (h : Rd κ W A xs) {g j : Nat} {u0 : Value} (hc : W.cell? ⟨g, j, none⟩ = some u0) (hu : ∀ z, u0 ≠ .int κ z) (u : Value) : Rd κ (W.setCell ⟨g, j, none⟩ u) A xs := fun i hi => by
  obtain ⟨g', o, e, hc'⟩ := h i hi
  refine ⟨g', o, e, ?_⟩
  have hne : (⟨g', o + i, none⟩ : Addr) ≠ ⟨g, j, none⟩ := fun e2 => by
    rw [e2] at hc'
    rw [hc] at hc'
    exact hu _ (Option.some.inj hc')
  rw [World.cell?_setCell_other _ _ _ _ (fun e3 => hne e3.symm)]
  exact hc'
/-- The parts of a float as a fraction. -/
def amN (r : Nat) : Nat := manF r * 2 ^ (expF r).toNat
def amD (r : Nat) : Nat := 2 ^ (-expF r).toNat
end Go.Proofs.YtbbbdcohkfijoaaGreatDoor

namespace Go.Proofs.YtbbbdcohkfijoaaGreatDoor
open Go.RowKit Go.Lib

theorem ten_lt (k b : Nat) (h : 4 * k < 32 * b) : 10 ^ k < B32 ^ b := by
  have h1 : 10 ^ k ≤ (2 ^ 4) ^ k := Nat.pow_le_pow_left (by decide) _
  rw [← Nat.pow_mul] at h1
  exact Nat.lt_of_le_of_lt h1 (two_lt _ _ h)
theorem prod_room {a b p q n : Nat} (ha : a < B32 ^ p) (hb : b < B32 ^ q) (h : p + q ≤ n) : a * b < B32 ^ n := by
  have h1 : a * b < B32 ^ p * B32 ^ q := Nat.mul_lt_mul'' ha hb
  rw [← Nat.pow_add] at h1
  exact Nat.lt_of_lt_of_le h1 (Nat.pow_le_pow_right (by decide) h)
/-- Digits with as many noughts ahead that one stands ahead of the point. -/
def padT (d : List UInt8) (p : Nat) : List UInt8 := List.replicate (p + 1 - d.length) 48 ++ d
/-- The text with p digits behind the point. -/
def fixT (d : List UInt8) (p : Nat) : List UInt8 := if p = 0 then d else (padT d p).take ((padT d p).length - p) ++ 46 :: (padT d p).drop ((padT d p).length - p)
end Go.Proofs.YtbbbdcohkfijoaaGreatDoor
