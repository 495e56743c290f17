/- Contracts of layer 2: Mul. -/
import Derived.Test.YtflnackpkcldjaaDoorNatX
namespace Go.Proofs.YtflnackpkcldjaaDoor
open Go.RowKit Go.Lib

/-- The state of the inner loop of the product. -/
structure MulIn (B : Nat) (base cur : List Nat) (i j c x : Nat) (ys : List Nat) : Prop where
  len : cur.length = base.length
  lim : Lim B cur
  hc : c < B
  rest : cur.drop (i + ys.length) = base.drop (i + ys.length)
  eq : vl B cur + B ^ (i + j) * c = vl B base + B ^ i * (x * vl B (ys.take j))
theorem mulIn_start {B : Nat} (hB : 0 < B) {base : List Nat} (h : Lim B base) (i x : Nat) (ys : List Nat) : MulIn B base base i 0 0 x ys := ⟨rfl, h, hB, rfl, by simp [vl]⟩
theorem mulIn_step {B : Nat} {base cur ys : List Nat} {i j c x : Nat} (h : MulIn B base cur i j c x ys) (hx : x < B) (hy : Lim B ys) (hj : j < ys.length) (hi : i + j < cur.length) (z : Nat) (hz : z = c + (x * ys[j] + cur[i + j])) :
    MulIn B base (cur.set (i + j) (z % B)) i (j + 1) (z / B) x ys := by
  have b1 := lim_get hy j hj
  have b2 := lim_get h.lim (i + j) hi
  have hB : 0 < B := by omega
  refine ⟨by rw [List.length_set, h.len], lim_set h.lim (Nat.mod_lt _ hB), ?_, ?_, ?_⟩
  · apply Nat.div_lt_of_lt_mul
    have h1 : x * ys[j] ≤ (B - 1) * (B - 1) := Nat.mul_le_mul (by omega) (by omega)
    have h2 : (B - 1) * (B - 1) + (B - 1) + (B - 1) < B * B := by
      obtain ⟨b, rfl⟩ : ∃ b, B = b + 1 := ⟨B - 1, by omega⟩
      simp only [Nat.add_sub_cancel, Nat.add_mul, Nat.mul_add, Nat.mul_one, Nat.one_mul]
      omega
    have h3 := h.hc
    omega
  · rw [List.drop_set_of_lt (by omega), h.rest]
  · have e1 := vl_set B cur (i + j) (z % B) hi
    have e2 := h.eq
    have hd := digit_step (B := B) (P := B ^ (i + j)) (z := z)
    have e3 := congrArg (B ^ (i + j) * ·) hz
    have e4 : B ^ i * (x * (B ^ j * ys[j])) = B ^ (i + j) * (x * ys[j]) := by rw [Nat.pow_add, Nat.mul_left_comm x, Nat.mul_assoc]
    rw [vl_take_succ B ys j hj, show i + (j + 1) = (i + j) + 1 by omega, Nat.pow_succ]
    simp only [Nat.mul_add] at e3 ⊢
    rw [e4]
    omega
/-- One row of the product more. -/
theorem mul_row {B : Nat} {base cur xs ys : List Nat} {i c x : Nat} (h : MulIn B base cur i ys.length c x ys) (hv : vl B base = vl B (xs.take i) * vl B ys) (hi : i < xs.length) (hx : xs[i] = x) (hl : base.length = xs.length + ys.length)
    (hz : base.drop (i + ys.length) = List.replicate (xs.length - i) 0) :
    vl B (cur.set (i + ys.length) c) = vl B (xs.take (i + 1)) * vl B ys ∧ (cur.set (i + ys.length) c).drop (i + 1 + ys.length) = List.replicate (xs.length - (i + 1)) 0 ∧ Lim B (cur.set (i + ys.length) c) := by
  have hlen : i + ys.length < cur.length := by have := h.len; omega
  have h0 : cur[i + ys.length] = 0 := by
    have a := drop_get cur (i + ys.length) hlen
    rw [h.rest, hz, show xs.length - i = (xs.length - (i + 1)) + 1 by omega, List.replicate_succ] at a
    exact (List.cons.inj a).1.symm
  refine ⟨?_, ?_, lim_set h.lim h.hc⟩
  · have e1 := vl_set B cur (i + ys.length) c hlen
    have e2 := h.eq
    rw [h0, Nat.mul_zero, Nat.add_zero] at e1
    rw [vl_take_all (Nat.le_refl _), hv] at e2
    rw [e1, e2, vl_take_succ B xs i hi, hx, Nat.add_mul, Nat.mul_assoc]
  · rw [List.drop_set_of_lt (by omega), show i + 1 + ys.length = (i + ys.length) + 1 by omega, ← List.drop_drop, h.rest, hz, List.drop_replicate]
    congr 1
theorem mul_fits {x y d c : Nat} (hx : x < 4294967296) (hy : y < 4294967296) (hd : d < 4294967296) (hc : c < 4294967296) : ∃ p : Nat, x * y = p ∧ (x : Int) * (y : Int) = (p : Int) ∧ (p : Int) + (d : Int) + (c : Int) ≤ 18446744073709551615 := by
  have h : x * y ≤ 4294967295 * 4294967295 := Nat.mul_le_mul (by omega) (by omega)
  exact ⟨x * y, rfl, (Int.natCast_mul _ _).symm, by omega⟩

set_option maxRecDepth 100000 in
set_option maxHeartbeats 4000000 in
theorem mul_any (A A' : Option Addr) (ca cb : Nat) (xs ys : List Nat) (w : World) (hx : Lim B32 xs) (hy : Lim B32 ys) (hxn : xs.length ≤ 1000) (hyn : ys.length ≤ 1000) (hra : Rd .u32 w A xs) (hrb : Rd .u32 w A' ys) :
    Calls Tryd.prog 13 #[.slice A xs.length ca, .slice A' ys.length cb] w (RowErr w.heap.size w (res2 xs ys (vl B32 xs * vl B32 ys))) := by
  have cV := fun (W : World) (h : Rd .u32 W A xs) => valid_any A ca xs W (by omega) hx h
  have cU := fun (W : World) (h : Rd .u32 W A' ys) => valid_any A' cb ys W (by omega) hy h
  by_cases hvx : vld xs = true
  case neg =>
    have hvf : vld xs = false := by simpa using hvx
    have HR := Lib.hid (show res2 xs ys (vl B32 xs * vl B32 ys) = ([], 30) by rw [res2, if_neg (fun h => hvx h.1)])
    rw [hvf] at cV
    have CV := Lib.hid cV
    clear cV cU hvx hvf
    go_enter Tryd.func13, Tryd.ntmps13
    go_wp2_with fail
    refine (CV.out _ hra).mono ?_
    rintro e w' ⟨rfl, rfl⟩
    go_wp2
    go_ret2
    exact ⟨_, by rw [HR.out]; rfl, by rw [HR.out]; exact Own.nil _ _ _, Below.refl _ _⟩
  by_cases hvy : vld ys = true
  case neg =>
    have hvf : vld ys = false := by simpa using hvy
    have HR := Lib.hid (show res2 xs ys (vl B32 xs * vl B32 ys) = ([], 30) by rw [res2, if_neg (fun h => hvy h.2)])
    rw [hvx] at cV
    rw [hvf] at cU
    have CV := Lib.hid cV
    have CU := Lib.hid cU
    clear cV cU hvx hvy hvf
    go_enter Tryd.func13, Tryd.ntmps13
    go_wp2_with fail
    refine (CV.out _ hra).mono ?_
    rintro e w' ⟨rfl, rfl⟩
    go_wp2_with fail
    refine (CU.out _ hrb).mono ?_
    rintro e w' ⟨rfl, rfl⟩
    go_wp2
    go_ret2
    exact ⟨_, by rw [HR.out]; rfl, by rw [HR.out]; exact Own.nil _ _ _, Below.refl _ _⟩
  have HR := Lib.hid (show res2 xs ys (vl B32 xs * vl B32 ys) = natRes (vl B32 xs * vl B32 ys) by rw [res2, if_pos ⟨hvx, hvy⟩])
  rw [hvx] at cV
  rw [hvy] at cU
  have CV := Lib.hid cV
  have CU := Lib.hid cU
  obtain ⟨i0, hi, hz0, hz1, hz2⟩ := info_parts info_u32
  have hmk : ∀ W : World, (Instr.makeSlice 22 (.int .i64 ((xs.length : Int) + (ys.length : Int))) (.int .i64 ((xs.length : Int) + (ys.length : Int)))).run Tryd.prog W = .ok (.slice (some ⟨W.heap.size, 0, none⟩) (xs.length + ys.length) (xs.length + ys.length)) (W.alloc (.cells (madeCells (Value.int .u32 0).cells ((xs.length + ys.length) * 1)) 47)) := fun W => by
    have := run_make (P := Tryd.prog) W 22 47 i0 (.int .u32 0) Tryd.underlying22 hi hz0 .i64 .i64 ((xs.length : Int) + (ys.length : Int)) ((xs.length : Int) + (ys.length : Int)) (by omega) (by omega) (by rw [hz2]; omega) (by omega)
    rw [hz1, show ((xs.length : Int) + (ys.length : Int)).toNat = xs.length + ys.length by omega] at this
    exact this
  clear cV cU hvx hvy hi hz0 hz1 hz2
  go_enter Tryd.func13, Tryd.ntmps13
  go_wp2_with fail
  refine (CV.out _ hra).mono ?_
  rintro e w' ⟨rfl, rfl⟩
  go_wp2_with fail
  refine (CU.out _ hrb).mono ?_
  rintro e w' ⟨rfl, rfl⟩
  clear CV CU
  have fN : At .u32 (w.alloc (.cells (madeCells #[Value.int .u32 0] (xs.length + ys.length)) 47)) w.heap.size 47 [] (List.replicate (xs.length + ys.length) 0) [] := by
    have := at_made w (xs.length + ys.length)
    rwa [Nat.mul_one] at this
  have hBa := (Below.refl w.heap.size w).alloc (Nat.le_refl _) (.cells (madeCells #[Value.int .u32 0] (xs.length + ys.length)) 47)
  go_wp2
  obtain ⟨g, hg⟩ : ∃ g, w.heap.size = g := ⟨_, rfl⟩
  have hgB : w.heap.size ≤ g := by omega
  have HG := Lib.hid hg
  rw [hg] at fN
  rw [hg]
  go_loopw [28] (fun i wr => ∃ (k : Nat) (cur : List Nat), k ≤ xs.length ∧ i = .int .i64 k ∧ At .u32 wr g 47 [] cur [] ∧ cur.length = xs.length + ys.length ∧ Lim B32 cur ∧ vl B32 cur = vl B32 (xs.take k) * vl B32 ys ∧ cur.drop (k + ys.length) = List.replicate (xs.length - k) 0 ∧ Below w.heap.size w wr) (fun i _ => xs.length - (RowKit.intOf i).toNat)
  case atStart => exact ⟨0, _, Nat.zero_le _, rfl, fN, List.length_replicate, lim_zeros (by decide) _, by rw [vl_zeros]; simp [vl], by rw [List.drop_replicate]; congr 1; omega, hBa⟩
  case round =>
    clear fN hBa hg
    obtain ⟨k, cur, hk, rfl, fA, hlen, hL, hv, hz, hB⟩ := hrel
    have HLEN := Lib.hid hlen
    have HV := Lib.hid hv
    have HZ := Lib.hid hz
    clear hlen hv hz
    by_cases hlt : k < xs.length
    · obtain ⟨ga, oa, rfl, hca⟩ := (hra.below hB) k hlt
      obtain ⟨x, hxe, hxk⟩ := lim32 hx k hlt
      rw [hxe] at hca
      have HXE := Lib.hid hxe
      clear hxe
      go_wp2
      obtain ⟨wo, rfl⟩ : ∃ wo : World, wo = wr := ⟨wr, rfl⟩
      go_loopw [9, 35] (fun c j wi => ∃ (m z : Nat) (cur' : List Nat), m ≤ ys.length ∧ j = .int .i64 m ∧ c = .int .u64 z ∧ At .u32 wi g 47 [] cur' [] ∧ MulIn B32 cur cur' k m z x ys ∧ Below w.heap.size w wi) (fun _ j _ => ys.length - (RowKit.intOf j).toNat)
      case atStart => exact ⟨0, 0, cur, Nat.zero_le _, rfl, rfl, fA, mulIn_start (by decide) hL k x ys, hB⟩
      case round =>
        clear fA hB
        obtain ⟨m, z, cur', hm, rfl, rfl, fA, hM, hB⟩ := hrel
        have hzb : z < 4294967296 := hM.hc
        have hlc : cur'.length = xs.length + ys.length := by rw [hM.len, HLEN.out]
        by_cases hmt : m < ys.length
        · obtain ⟨gb, ob, rfl, hcb⟩ := (hrb.below hB) m hmt
          obtain ⟨y, hye, hyk⟩ := lim32 hy m hmt
          rw [hye] at hcb
          have hkm : k + m < cur'.length := by omega
          obtain ⟨d, hde, hdk⟩ := lim32 hM.lim (k + m) hkm
          have hcd := fA.cell (o := 0) rfl (k + m) hkm
          rw [Nat.zero_add, hde] at hcd
          have hfz := fA.frozen (k + m)
          obtain ⟨p, hp, hpi, hpb⟩ := mul_fits hxk hyk hdk hzb
          have hS := mulIn_step (B := 4294967296) hM hxk hy hmt hkm (z + (p + d)) (by rw [hye, hde, hp])
          have hA1 := fA.set (o := 0) rfl (k + m) ((z + (p + d)) % 4294967296) hkm
          rw [Nat.zero_add] at hA1
          have HS := Lib.hid hS
          have HA1 := Lib.hid hA1
          have hkml : (k : Int) + (m : Int) < (xs.length : Int) + (ys.length : Int) := by omega
          clear hye hde hp hS hA1 hM hlc hkm fA
          go_wp2
          clear hpi
          go_roundw
          case rel => exact ⟨m + 1, (z + (p + d)) / 4294967296, _, hmt, by go_num, vint (by omega), by rw [show ((z : Int) + ((p : Int) + (d : Int))) % 4294967296 = (((z + (p + d)) % 4294967296 : Nat) : Int) by omega]; exact HA1.out, HS.out, hB.setCell hgB _⟩
          case measure => simp [RowKit.intOf]; omega
        · obtain rfl : m = ys.length := by omega
          obtain ⟨r1, r2, r3⟩ := mul_row hM HV.out hlt HXE.out HLEN.out HZ.out
          have hkm : k + ys.length < cur'.length := by omega
          have hcd := fA.cell (o := 0) rfl (k + ys.length) hkm
          rw [Nat.zero_add] at hcd
          obtain ⟨u, hu⟩ : ∃ u, cur'[k + ys.length] = u := ⟨_, rfl⟩
          rw [hu] at hcd
          have hfz := fA.frozen (k + ys.length)
          have hA1 := fA.set (o := 0) rfl (k + ys.length) z hkm
          rw [Nat.zero_add] at hA1
          have hl2 : (cur'.set (k + ys.length) z).length = xs.length + ys.length := by rw [List.length_set, hlc]
          have R1 := Lib.hid r1
          have R2 := Lib.hid r2
          have HA1 := Lib.hid hA1
          have HL2 := Lib.hid hl2
          have hkml : (k : Int) + (ys.length : Int) < (xs.length : Int) + (ys.length : Int) := by omega
          clear r1 r2 hA1 hl2 hM hlc hkm fA hu
          go_wp2
          go_roundw
          case rel => exact ⟨k + 1, _, hlt, by go_num, HA1.out, HL2.out, r3, R1.out, R2.out, hB.setCell hgB _⟩
          case measure => simp [RowKit.intOf]; omega
    · obtain rfl : k = xs.length := by omega
      have hO := own_of_at (B := w.heap.size) (cap := xs.length + ys.length) fA hgB (by rw [HLEN.out]; rfl) (by unfold maxLen; omega)
      rw [HLEN.out] at hO
      have cF := fit_own _ _ cur wr hL (by rw [HLEN.out]; omega) hO
      have hv := HV.out
      rw [vl_take_all (Nat.le_refl _)] at hv
      rw [hv] at cF
      have CF := Lib.hid cF
      clear cF hO hv fA
      go_wp2_with fail
      refine CF.out.mono ?_
      rintro e w4 ⟨v, rfl, hO4, hB4⟩
      obtain ⟨nr, hnr⟩ : ∃ nr, natRes (vl B32 xs * vl B32 ys) = nr := ⟨_, rfl⟩
      rw [hnr] at hO4 HR
      rw [hnr]
      obtain ⟨nl, ne⟩ := nr
      have HO4 := Lib.hid hO4
      clear hO4 hnr CF
      have hBz := hB.trans hB4
      go_wp2
      go_ret2
      exact ⟨_, by rw [HR.out]; rfl, by rw [HR.out]; exact HO4.out, hBz⟩
end Go.Proofs.YtflnackpkcldjaaDoor
