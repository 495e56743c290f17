/- Several texts in one (The definition of layer 3: Read's bisection; The definition of layer 4: isDigit, blank, hex, Same; Plain: numbers far below and far above all floats. No walk here; The definition of layer 4: value, of no more than 1000 digits; The definition of layer 4: value, of one digit to 1000 behind the noughts; The definition of layer 4: value, of more than 1000 digits behind the noughts; Plain: the texts of a float by e, f and g, and what is read of them. No walk here). -/
import Derived.WalkSpells
import Derived.Test.YtohickpkkldmdaaGreatDoorPk9
namespace Go.Proofs.YtohickpkkldmdaaGreatDoor
open Go.RowKit Go.Lib

theorem near_first {X D r : Nat} (hr : r ≤ 9218868437227405312) (hlo : ∀ q, r = q + 1 → mid2 D q < X) (hhi : r < 9218868437227405312 → X ≤ mid2 D r) (hev : r < 9218868437227405312 → X = mid2 D r → r % 2 = 0) : Near X D r :=
  ⟨fun q hq => by subst hq; exact Nat.le_of_lt (hlo q rfl), fun q hq he => by subst hq; exact absurd he (Nat.ne_of_lt (hlo q rfl)), hhi, hev, hr⟩
theorem near_second {X D r : Nat} (hD : 0 < D) (hr : r < 9218868437227405312) (ho : r % 2 = 1) (he : X = mid2 D r) : Near X D (r + 1) := by
  have hm := mid2_lt hD (show r < r + 1 by omega)
  refine ⟨fun q hq => ?_, fun q hq _ => by omega, fun _ => by rw [he]; exact Nat.le_of_lt hm, fun _ h => absurd h (by rw [he]; exact Nat.ne_of_lt hm), by omega⟩
  obtain rfl : q = r := by omega
  rw [he]
  exact Nat.le_refl _
set_option maxRecDepth 100000 in
set_option maxHeartbeats 4000000 in
theorem rread_mid (s : ByteArray) (x : Int) (n X D : Nat) (w : World) (hs : s.size ≤ 1024) (hd : isDec s = true) (hn : pv s.data.toList = n) (h0 : n ≠ 0) (hx0 : -1500 ≤ x) (hx1 : x ≤ 400)
    (hX : 2 * (n * 10 ^ x.toNat) * S1074 = X) (hD : 10 ^ (-x).toNat = D) :
    Calls Tryz.prog 103 #[.string s, .int .i64 x] w (RRead w X D) := by
  have cP := rparse_any s w (by omega)
  have hnb := pv_lt (isDec_iff.1 hd).2
  rw [ba_len, hn] at hnb
  rw [rparRes, hd, if_pos rfl, hn] at cP
  have hl : (dig D4 n).length ≤ 1030 := by
    obtain ⟨c, hc⟩ : ∃ c : Nat, c = 1030 := ⟨_, rfl⟩
    rw [← hc]
    exact (dig_len_le (by decide) n c).2 (Nat.lt_of_lt_of_le hnb (Nat.le_trans (Nat.pow_le_pow_right (n := 10) (by omega) (show s.size ≤ c by omega)) (Nat.pow_le_pow_left (by decide) _)))
  have hlb : (((dig D4 n).length : Int) == 0) = false := by
    rw [beq_eq_false_iff_ne]
    intro e
    exact h0 (dig_nil (B := D4) (by decide) (List.eq_nil_of_length_eq_zero (by omega)))
  have hDp : 0 < D := by rw [← hD]; exact Nat.pow_pos (by omega)
  have cA := fun (A : Option Addr) (ca r : Nat) (W : World) (hr : r < 9218868437227405312) (hra : Rd .i64 W A (dig D4 n)) => above_any A ca n x r W (by omega) (by omega) hr (by omega) hra
  have hmid := fun (r : Nat) (hr : r < 9218868437227405312) => above_mid n r x hr
  rw [hX, hD] at hmid
  have cU : ∀ (A : Option Addr) (ca r : Nat) (W : World), r < 9218868437227405312 → Rd .i64 W A (dig D4 n) → Calls Tryz.prog 150 #[.slice A (dig D4 n).length ca, .int .i64 x, .int .u64 r] W fun e w' => e = .returned (.int .i64 (cmpZ X (mid2 D r))) ∧ Below W.heap.size W w' := fun A ca r W hr hra => by
    rw [← hmid r hr]; exact cA A ca r W hr hra
  have CP := Lib.hid cP
  have CU := Lib.hid cU
  have HD := Lib.hid hDp
  have hx2 : ¬ x < -1500 := by omega
  have hx3 : ¬ 400 < x := by omega
  have hfr := fun (r : Nat) (W : World) => run_f64from r W
  have HFR := Lib.hid hfr
  clear cP cA cU hmid hX hD hDp hn h0 hnb hd hfr
  go_enter Tryz.func103, Tryz.ntmps103
  go_wp2_with fail
  refine CP.out.mono ?_
  rintro e w1 ⟨v, rfl, o, nb⟩
  obtain ⟨A1, d1, rfl, _⟩ := o.slice_
  have HQ := Lib.hid o.rd
  have HB := Lib.hid nb
  have hw1 := nb.size
  clear o nb
  go_wp2_with fail
  go_loopw [8, 9] (fun lv hv wr => ∃ lo hi : Nat, lv = .int .u64 (lo : Int) ∧ hv = .int .u64 (hi : Int) ∧ lo ≤ hi ∧ hi ≤ 9218868437227405312 ∧ (∀ q, lo = q + 1 → mid2 D q < X) ∧ (hi < 9218868437227405312 → X ≤ mid2 D hi) ∧ Below w1.heap.size w1 wr) (fun lv hv _ => (RowKit.intOf hv - RowKit.intOf lv).toNat)
  case atStart => exact ⟨0, 9218868437227405312, rfl, rfl, by omega, by omega, fun q e => absurd e (by omega), fun h => absurd h (by omega), Below.refl _ _⟩
  case round =>
    obtain ⟨lo, hi, rfl, rfl, hlh, hhi, hlo, hup, hb⟩ := hrel
    have HLO := Lib.hid hlo
    have HUP := Lib.hid hup
    clear hlo hup
    by_cases hlt : lo < hi
    · obtain ⟨m, hm⟩ : ∃ m, (lo + hi) / 2 = m := ⟨_, rfl⟩
      have hmi : ((lo : Int) + (hi : Int)) / 2 = (m : Int) := by omega
      have hm1 : lo ≤ m := by omega
      have hm2 : m < hi := by omega
      clear hm
      rcases Nat.lt_or_ge (mid2 D m) X with hc | hc
      · have cz := CU.out A1 d1 m wr (by omega) (HQ.out.below hb)
        rw [cmpZ_gt hc] at cz
        have CZ := Lib.hid cz
        have HC := Lib.hid hc
        clear cz hc
        go_wp2_with fail
        refine CZ.out.mono ?_
        rintro e w2 ⟨rfl, nb⟩
        have hb2 := hb.trans (nb.mono hb.size)
        clear nb
        go_wp2_with fail
        go_roundw
        case rel => exact ⟨m + 1, hi, by go_num, rfl, by omega, hhi, fun q e => by
          obtain rfl : q = m := by omega
          exact HC.out, HUP.out, hb2⟩
        case measure => simp [RowKit.intOf]; omega
      · have cz := CU.out A1 d1 m wr (by omega) (HQ.out.below hb)
        have hz : cmpZ X (mid2 D m) ≤ 0 := by
          unfold cmpZ
          split
          · omega
          · split <;> omega
        obtain ⟨z, hze⟩ : ∃ z, cmpZ X (mid2 D m) = z := ⟨_, rfl⟩
        rw [hze] at cz hz
        have hzn : ¬ 0 < z := by omega
        have CZ := Lib.hid cz
        have HC := Lib.hid hc
        clear cz hc hze
        go_wp2_with fail
        refine CZ.out.mono ?_
        rintro e w2 ⟨rfl, nb⟩
        have hb2 := hb.trans (nb.mono hb.size)
        clear nb
        go_wp2_with fail
        go_roundw
        case rel => exact ⟨lo, m, rfl, rfl, by omega, by omega, HLO.out, fun _ => HC.out, hb2⟩
        case measure => simp [RowKit.intOf]; omega
    · obtain rfl : lo = hi := by omega
      have hB := HB.out.trans (hb.mono hw1)
      have hf1 := HFR.out lo
      by_cases hinf : lo = 9218868437227405312
      · have HI := Lib.hid hinf
        have hn1 : ¬ (lo : Int) < 9218868437227405312 := by omega
        clear hinf hlt
        go_wp2_with fail
        go_ret2
        refine ⟨lo, rfl, Lib.hid ?_, hB⟩
        exact near_first (by omega) HLO.out (fun h => absurd h (by have := HI.out; omega)) (fun h => absurd h (by have := HI.out; omega))
      · have hl1 : lo < 9218868437227405312 := by omega
        have cz := CU.out A1 d1 lo wr hl1 (HQ.out.below hb)
        have hle := HUP.out hl1
        have hl1i : (lo : Int) < 9218868437227405312 := by omega
        have HL1 := Lib.hid hl1
        by_cases hodd : lo % 2 = 1
        · have ho : ((lo : Int) % 2 == 1) = true := by rw [beq_iff_eq]; omega
          by_cases heq : X = mid2 D lo
          · rw [cmpZ_eq heq] at cz
            have CZ := Lib.hid cz
            have HE := Lib.hid heq
            have HO := Lib.hid hodd
            have hf2 := HFR.out (lo + 1)
            rw [show ((lo + 1 : Nat) : Int) = (lo : Int) + 1 by omega] at hf2
            clear cz heq hinf hlt hle hf1 hl1 hhi hodd
            go_wp2_with fail
            refine CZ.out.mono ?_
            rintro e w2 ⟨rfl, nb⟩
            have hB := hB.trans (nb.mono hB.size)
            clear nb
            go_wp2_with fail
            go_ret2
            refine ⟨lo + 1, rfl, Lib.hid ?_, hB⟩
            exact near_second HD.out HL1.out HO.out HE.out
          · have hc : X < mid2 D lo := by omega
            rw [cmpZ_lt hc] at cz
            have CZ := Lib.hid cz
            have HC := Lib.hid hc
            clear cz heq hinf hlt hle hc hl1 hhi hodd
            go_wp2_with fail
            refine CZ.out.mono ?_
            rintro e w2 ⟨rfl, nb⟩
            have hB := hB.trans (nb.mono hB.size)
            clear nb
            go_wp2_with fail
            go_ret2
            refine ⟨lo, rfl, Lib.hid ?_, hB⟩
            exact near_first (Nat.le_of_lt HL1.out) HLO.out (fun _ => Nat.le_of_lt HC.out) (fun _ he => absurd he (Nat.ne_of_lt HC.out))
        · have ho : ((lo : Int) % 2 == 1) = false := by rw [beq_eq_false_iff_ne]; omega
          have HL := Lib.hid hle
          have HO := Lib.hid hodd
          clear cz hinf hlt hle hodd hl1 hhi
          go_wp2_with fail
          go_ret2
          refine ⟨lo, rfl, Lib.hid ?_, hB⟩
          exact near_first (Nat.le_of_lt HL1.out) HLO.out (fun _ => HL.out) (fun _ _ => by have := HO.out; omega)
/-- The definition's Read. -/
theorem rread_end (s : ByteArray) (x : Int) (w : World) (hs : s.size ≤ 1024) (hd : isDec s = true) :
    Calls Tryz.prog 103 #[.string s, .int .i64 x] w (RRead w (2 * (pv s.data.toList * 10 ^ x.toNat) * S1074) (10 ^ (-x).toNat)) := by
  by_cases h : pv s.data.toList = 0 ∨ x < -1500 ∨ 400 < x
  · exact rread_far s x w hs hd h
  · exact rread_mid s x _ _ _ w hs hd rfl (by omega) (by omega) (by omega) rfl rfl
end Go.Proofs.YtohickpkkldmdaaGreatDoor

namespace Go.Proofs.YtohickpkkldmdaaGreatDoor
open Go.RowKit Go.Lib

/-- Does a decimal digit stand there? -/
def digAt (l : List UInt8) (i : Nat) : Bool := match l[i]? with | some c => isD c | none => false
theorem digAt_lt {l : List UInt8} {i : Nat} (h : digAt l i = true) : i < l.length := by
  unfold digAt at h
  cases e : l[i]? with
  | none => rw [e] at h; cases h
  | some c => exact (List.getElem?_eq_some_iff.1 e).1
theorem digAt_at {l : List UInt8} {i : Nat} (h : i < l.length) : digAt l i = isD l[i] := by
  unfold digAt
  rw [List.getElem?_eq_getElem h]
set_option maxRecDepth 100000 in
set_option maxHeartbeats 1000000 in
theorem isDigit_any (s : ByteArray) (i : Nat) (w : World) (_hs : s.size ≤ 4611686018427387904) (_hi : i ≤ 4611686018427387904) : Calls Tryz.prog 186 #[.string s, .int .i64 (i : Int)] w fun e w' => e = .returned (.bool (digAt s.data.toList i)) ∧ w = w' := by
  by_cases hlt : i < s.size
  · have hb := ba_byte s rfl i hlt
    have hl : i < s.data.toList.length := by rw [ba_len]; exact hlt
    obtain ⟨z, hz⟩ : ∃ z, (s[i]'hlt).toNat = z := ⟨_, rfl⟩
    have hzi : (((s[i]'hlt).toNat : Nat) : Int) = (z : Int) := by rw [hz]
    have hE : digAt s.data.toList i = (decide (48 ≤ z) && decide (z ≤ 57)) := by
      unfold digAt
      rw [hb]
      show isD (s[i]'hlt) = _
      unfold isD
      rw [hz]
    rw [hE]
    by_cases h1 : 48 ≤ z
    · by_cases h2 : z ≤ 57
      · have h1i : (48 : Int) ≤ (z : Int) := by omega
        have h2i : (z : Int) ≤ 57 := by omega
        rw [decide_eq_true h1, decide_eq_true h2]
        clear hb hl hE hz
        go_enter Tryz.func186, Tryz.ntmps186
        go_wp2
        go_ret
        exact ⟨rfl, rfl⟩
      · have h1i : (48 : Int) ≤ (z : Int) := by omega
        have h2i : ¬ (z : Int) ≤ 57 := by omega
        rw [decide_eq_true h1, decide_eq_false h2]
        clear hb hl hE hz
        go_enter Tryz.func186, Tryz.ntmps186
        go_wp2
        go_ret
        exact ⟨rfl, rfl⟩
    · have h1i : ¬ (48 : Int) ≤ (z : Int) := by omega
      rw [decide_eq_false h1, Bool.false_and]
      clear hb hl hE hz
      go_enter Tryz.func186, Tryz.ntmps186
      go_wp2
      go_ret
      exact ⟨rfl, rfl⟩
  · have hE : digAt s.data.toList i = false := by
      cases h : digAt s.data.toList i with
      | false => rfl
      | true => have := digAt_lt h; rw [ba_len] at this; omega
    rw [hE]
    have hl : ¬ (i : Int) < (s.size : Int) := by omega
    clear hE
    go_enter Tryz.func186, Tryz.ntmps186
    go_wp2
    go_ret
    exact ⟨rfl, rfl⟩
def blB (c : Nat) : Bool := c == 32 || c == 9 || c == 10
theorem blB_contains (c : UInt8) : ([32, 9, 10] : List UInt8).contains c = blB c.toNat := by
  unfold blB
  have h : ∀ k : UInt8, (c == k) = (c.toNat == k.toNat) := fun k => by
    rw [Bool.eq_iff_iff, beq_iff_eq, beq_iff_eq]
    exact ⟨fun e => by rw [e], fun e => UInt8.toNat_inj.1 e⟩
  rw [List.contains_cons, List.contains_cons, List.contains_cons, List.contains_nil, h, h, h]
  simp [Bool.or_assoc]
set_option maxRecDepth 100000 in
set_option maxHeartbeats 1000000 in
theorem blank_any (c : Nat) (w : World) (hc : c < 256) : Calls Tryz.prog 95 #[.int .u8 (c : Int)] w fun e w' => e = .returned (.bool (blB c)) ∧ w = w' := by
  unfold blB
  by_cases h1 : c = 32
  · subst h1
    go_enter Tryz.func95, Tryz.ntmps95
    go_wp2
    go_ret
    exact ⟨rfl, rfl⟩
  · by_cases h2 : c = 9
    · subst h2
      go_enter Tryz.func95, Tryz.ntmps95
      go_wp2
      go_ret
      exact ⟨rfl, rfl⟩
    · by_cases h3 : c = 10
      · subst h3
        go_enter Tryz.func95, Tryz.ntmps95
        go_wp2
        go_ret
        exact ⟨rfl, rfl⟩
      · have e1 : (c == 32) = false := by rw [beq_eq_false_iff_ne]; exact h1
        have e2 : (c == 9) = false := by rw [beq_eq_false_iff_ne]; exact h2
        have e3 : (c == 10) = false := by rw [beq_eq_false_iff_ne]; exact h3
        rw [e1, e2, e3]
        have g1 : ((c : Int) == 32) = false := by rw [beq_eq_false_iff_ne]; omega
        have g2 : ((c : Int) == 9) = false := by rw [beq_eq_false_iff_ne]; omega
        have g3 : ((c : Int) == 10) = false := by rw [beq_eq_false_iff_ne]; omega
        clear h1 h2 h3 e1 e2 e3
        go_enter Tryz.func95, Tryz.ntmps95
        go_wp2
        go_ret
        exact ⟨rfl, rfl⟩
def hexI (c : Nat) : Int := if hexB c = true then (hexR c : Int) else -1
set_option maxRecDepth 100000 in
set_option maxHeartbeats 1000000 in
/-- The same bits, or both a NaN. -/
theorem same_true (x y : Nat) (w : World) (_hx : x < 18446744073709551616) (hy : y < 18446744073709551616) (h : cn x = cn y) : Calls Tryz.prog 21 #[.float .f64 x, .float .f64 y] w fun e w' => e = .returned (.bool true) ∧ w = w' := by
  have b1 := fun W => run_f64bits x W
  have b2 := fun W => run_f64bits y W
  by_cases hn : 9218868437227405312 < mag x
  · have hn2 : 9218868437227405312 < mag y := by
      rw [cn_nan hn] at h
      rcases Nat.lt_or_ge 9218868437227405312 (mag y) with h1 | h1
      · exact h1
      · rw [cn_id h1] at h
        rw [← h] at h1
        exact absurd h1 (by decide)
    have t1 : (FloatKind.f64.format.order x x != some .eq) = true := nan_yes hn
    have t2 : (FloatKind.f64.format.order y y != some .eq) = true := nan_yes hn2
    clear hn hn2 h
    go_enter Tryz.func21, Tryz.ntmps21
    go_wp2
    go_ret
    exact ⟨rfl, rfl⟩
  · have hxy : x = y := by
      rw [cn_id (by omega)] at h
      unfold cn at h
      split at h
      · rw [h] at hn
        exact absurd (by decide : 9218868437227405312 < mag qN) hn
      · exact h
    subst hxy
    have t1 : (FloatKind.f64.format.order x x != some .eq) = false := nan_no (by omega)
    have t3 : ((x : Int) == (x : Int)) = true := by rw [beq_iff_eq]
    clear hn h
    go_enter Tryz.func21, Tryz.ntmps21
    go_wp2
    go_ret
    exact ⟨rfl, rfl⟩
end Go.Proofs.YtohickpkkldmdaaGreatDoor

namespace Go.Proofs.YtohickpkkldmdaaGreatDoor

theorem far_pow : 2 * S1074 ≤ 10 ^ 324 := by decide +kernel
theorem near_low_end {n len : Nat} {e : Int} (hn : n < 10 ^ len) (h : e + (len : Int) < -400) : Near (2 * (n * 10 ^ e.toNat) * S1074) (10 ^ (-e).toNat) 0 := by
  obtain ⟨c, hc⟩ : ∃ c, (-e).toNat = c := ⟨_, rfl⟩
  obtain ⟨t, ht⟩ : ∃ t : Nat, t = 324 := ⟨_, rfl⟩
  have hf := far_pow
  rw [← ht] at hf
  rw [hc, show e.toNat = 0 by omega, Nat.pow_zero, Nat.mul_one]
  have h1 : 2 * n * S1074 < 10 ^ c := by
    have a1 : 2 * n * S1074 = n * (2 * S1074) := by
      generalize S1074 = z
      ac_rfl
    rw [a1]
    have a2 : n * (2 * S1074) ≤ n * 10 ^ t := Nat.mul_le_mul_left _ hf
    have a3 : n * 10 ^ t < 10 ^ len * 10 ^ t := Nat.mul_lt_mul_of_pos_right hn (Nat.pow_pos (by omega))
    rw [← Nat.pow_add] at a3
    have a4 : 10 ^ (len + t) ≤ 10 ^ c := Nat.pow_le_pow_right (by omega) (by omega)
    exact Nat.lt_of_le_of_lt a2 (Nat.lt_of_lt_of_le a3 a4)
  have hV : V 0 + V (0 + 1) = 1 := by decide
  refine ⟨fun q e => absurd e (by omega), fun q e => absurd e (by omega), fun _ => ?_, fun _ g => ?_, by omega⟩
  · rw [hV, Nat.one_mul]
    exact Nat.le_of_lt h1
  · rfl
theorem near_high_end {n len : Nat} {e : Int} (hn : 10 ^ (len - 1) ≤ n) (hl : 1 ≤ len) (h : 400 < e + (len : Int)) : Near (2 * (n * 10 ^ e.toNat) * S1074) (10 ^ (-e).toNat) 9218868437227405312 := by
  obtain ⟨t, ht⟩ : ∃ t : Nat, t = 310 := ⟨_, rfl⟩
  have hT := near_far_top (n := 1) (c := t) (by omega) (by omega)
  have h1 : 10 ^ t * 10 ^ (-e).toNat ≤ n * 10 ^ e.toNat := by
    have a1 : 10 ^ (len - 1) * 10 ^ e.toNat ≤ n * 10 ^ e.toNat := Nat.mul_le_mul_right _ hn
    rw [← Nat.pow_add] at a1
    rw [← Nat.pow_add]
    exact Nat.le_trans (Nat.pow_le_pow_right (by omega) (by omega)) a1
  refine ⟨fun q hq => ?_, fun q hq _ => by decide, fun g => absurd g (by omega), fun g => absurd g (by omega), by omega⟩
  have b := hT.lo q hq
  rw [Nat.mul_one, Nat.one_mul] at b
  have b2 : (V q + V 9218868437227405312) * 10 ^ (-e).toNat ≤ 2 * 10 ^ t * S1074 * 10 ^ (-e).toNat := Nat.mul_le_mul_right _ b
  refine Nat.le_trans b2 ?_
  have e1 : 2 * 10 ^ t * S1074 * 10 ^ (-e).toNat = 2 * (10 ^ t * 10 ^ (-e).toNat) * S1074 := by
    generalize S1074 = z
    ac_rfl
  rw [e1]
  exact Nat.mul_le_mul_right _ (Nat.mul_le_mul_left _ h1)
end Go.Proofs.YtohickpkkldmdaaGreatDoor

namespace Go.Proofs.YtohickpkkldmdaaGreatDoor
open Go.RowKit Go.Lib

def cod (l : List UInt8) : List Nat := l.map UInt8.toNat
theorem cod_len (l : List UInt8) : (cod l).length = l.length := List.length_map _
theorem cod_get {l : List UInt8} {j : Nat} (h : j < l.length) : (cod l)[j]'(by rw [cod_len]; exact h) = (l[j]).toNat := by simp [cod]
theorem rd_cell {w : World} {g o : Nat} {l : List UInt8} (h : Rd .u8 w (some ⟨g, o, none⟩) (cod l)) {j : Nat} (hj : j < l.length) : w.cell? ⟨g, o + j, none⟩ = some (.int .u8 (((l[j]).toNat : Nat) : Int)) := by
  obtain ⟨g', o', e, hc⟩ := h j (by rw [cod_len]; exact hj)
  cases e
  rw [hc, cod_get hj]
theorem rd_drop {w : World} {g o k : Nat} {l : List UInt8} (h : Rd .u8 w (some ⟨g, o, none⟩) (cod l)) : Rd .u8 w (some ⟨g, o + k, none⟩) (cod (l.drop k)) := by
  refine Rd.of fun j hj => ?_
  rw [cod_len, List.length_drop] at hj
  have hc := rd_cell h (j := k + j) (by omega)
  rw [Nat.add_assoc, hc, cod_get (by rw [List.length_drop]; exact hj), List.getElem_drop]
theorem conv_rd (w : World) (g o cap : Nat) (l : List UInt8) (h : Rd .u8 w (some ⟨g, o, none⟩) (cod l)) : (convert 83 9 (.slice (some ⟨g, o, none⟩) l.length cap)).run Tryz.prog w = .ok (.string ⟨l.toArray⟩) w := by
  refine run_convert_bytes_back (P := Tryz.prog) w 83 9 5 ⟨g, o, none⟩ cap l Tryz.underlying83 Tryz.underlying5 Tryz.underlying9 (fun j hj => ?_)
  rw [Addr.add_lit, rd_cell h hj]
/-- How many noughts stand ahead. -/
def nz (l : List UInt8) : Nat := l.length - (l.dropWhile (· == 48)).length
theorem nz_take (l : List UInt8) : nz l = (l.takeWhile (· == 48)).length := by
  have h : l.takeWhile (· == 48) ++ l.dropWhile (· == 48) = l := List.takeWhile_append_dropWhile
  have hl := congrArg List.length h
  rw [List.length_append] at hl
  unfold nz
  omega
theorem nz_drop (l : List UInt8) : l.drop (nz l) = l.dropWhile (· == 48) := by
  have h : l.takeWhile (· == 48) ++ l.dropWhile (· == 48) = l := List.takeWhile_append_dropWhile
  have e := List.drop_left (l₁ := l.takeWhile (· == 48)) (l₂ := l.dropWhile (· == 48))
  rw [h] at e
  rw [nz_take]
  exact e
theorem nz_le (l : List UInt8) : nz l ≤ l.length := Nat.sub_le _ _
theorem nz_at {l : List UInt8} {j : Nat} (hj : j < nz l) : l[j]'(Nat.lt_of_lt_of_le hj (nz_le l)) = 48 := by
  have h : l.takeWhile (· == 48) ++ l.dropWhile (· == 48) = l := List.takeWhile_append_dropWhile
  have hj2 : j < (l.takeWhile (· == 48)).length := by rw [← nz_take]; exact hj
  have e := List.getElem?_append_left (l₂ := l.dropWhile (· == 48)) hj2
  rw [h, List.getElem?_eq_getElem (Nat.lt_of_lt_of_le hj (nz_le l)), List.getElem?_eq_getElem hj2] at e
  rw [Option.some.inj e]
  have := List.all_eq_true.1 (List.all_takeWhile (p := (· == (48 : UInt8))) (l := l)) _ (List.getElem_mem hj2)
  exact eq_of_beq this
def RVal (w : World) (X D : Nat) (e : Ending) (w' : World) : Prop := ∃ r, e = .returned (.float .f64 r) ∧ Hid (Near X D r) ∧ Below w.heap.size w w'
set_option maxRecDepth 100000 in
set_option maxHeartbeats 2000000 in
theorem rvalue_zero (A : Option Addr) (n cap : Nat) (ds : List UInt8) (x : Int) (w : World) (hn : ds.length = n) (hcap : n ≤ cap) (hcm : cap ≤ 9223372036854775807) (hra : Rd .u8 w A (cod ds)) (h0 : nz ds = n) (X D : Nat) (hX : X = 0) (hD : 0 < D) :
    Calls Tryz.prog 58 #[.slice A n cap, .int .i64 x] w (RVal w X D) := by
  have HZ := Lib.hid (show Near X D 0 by rw [hX]; exact near_zero hD)
  have HA := Lib.hid (fun (j : Nat) (hj : j < n) => show ∃ g o, A = some ⟨g, o, none⟩ ∧ w.cell? ⟨g, o + j, none⟩ = some (.int .u8 48) by
    obtain ⟨g, o, e, hc⟩ := hra j (by rw [cod_len, hn]; exact hj)
    refine ⟨g, o, e, ?_⟩
    rw [hc, cod_get (by omega), nz_at (by omega)]
    rfl)
  have hcc : cap = n ∨ ¬ cap = n := by omega
  clear hX hra hn h0
  rcases hcc with hc | hc
  all_goals
    go_enter Tryz.func58, Tryz.ntmps58
    go_wp2
    go_loop [5] (fun kv => ∃ j : Nat, j ≤ n ∧ kv = .int .i64 (j : Int)) (fun kv => n - (RowKit.intOf kv).toNat)
    case atStart => exact ⟨0, by omega, rfl⟩
    case round =>
      obtain ⟨j, hj, rfl⟩ := hrel
      by_cases hlt : j < n
      · obtain ⟨g, o, rfl, hcell⟩ := HA.out j hlt
        go_wp2_with fail
        go_round
        case rel => exact ⟨j + 1, by omega, by go_num⟩
        case measure => simp [RowKit.intOf]; omega
      · obtain rfl : j = n := by omega
        go_wp2_with fail
        go_ret
        exact ⟨0, rfl, HZ, Below.refl _ _⟩
end Go.Proofs.YtohickpkkldmdaaGreatDoor

namespace Go.Proofs.YtohickpkkldmdaaGreatDoor
open Go.RowKit Go.Lib

theorem nz_stop {l : List UInt8} (h : nz l < l.length) : l[nz l] ≠ 48 := by
  have e := nz_drop l
  rw [List.drop_eq_getElem_cons h] at e
  exact trim_head e.symm
theorem nz_pv (l : List UInt8) : pv l = pv (l.drop (nz l)) := by rw [nz_drop, pv_trim]
theorem lead_ge {l : List UInt8} (hd : Dec l) (h : nz l < l.length) : 10 ^ ((l.drop (nz l)).length - 1) ≤ pv (l.drop (nz l)) := by
  rw [List.drop_eq_getElem_cons h, List.length_cons, Nat.add_sub_cancel]
  refine pv_ge (fun c hc => hd c ?_) (nz_stop h)
  rw [← List.drop_eq_getElem_cons h] at hc
  exact List.drop_subset _ _ hc
set_option maxRecDepth 100000 in
set_option maxHeartbeats 2000000 in
theorem rvalue_low (g o n m k cap : Nat) (ds : List UInt8) (x : Int) (w : World) (hn : ds.length = n) (hk : nz ds = k) (hkm : n = k + m) (hm0 : 0 < m) (hm : m ≤ 1000) (hcap : n ≤ cap) (hcm : cap ≤ 9223372036854775807) (hx0 : -1000000 ≤ x) (hx9 : x ≤ 1000000) (hd : Dec ds) (hra : Rd .u8 w (some ⟨g, o, none⟩) (cod ds)) (hx : x + (m : Int) < -400) :
    Calls Tryz.prog 58 #[.slice (some ⟨g, o, none⟩) n cap, .int .i64 x] w (RVal w (2 * (pv ds * 10 ^ x.toNat) * S1074) (10 ^ (-x).toNat)) := by
  have hTl : (ds.drop k).length = m := by rw [List.length_drop]; omega
  have HA := Lib.hid (fun (j : Nat) (hj : j < k) => show w.cell? ⟨g, o + j, none⟩ = some (.int .u8 48) by
    rw [rd_cell hra (j := j) (by omega), nz_at (by omega)]
    rfl)
  obtain ⟨z, hz⟩ : ∃ z, (ds[k]'(by omega)).toNat = z := ⟨_, rfl⟩
  have hzc : w.cell? ⟨g, o + k, none⟩ = some (.int .u8 (z : Int)) := by rw [rd_cell hra (j := k) (by omega), hz]
  have hz48 : z ≠ 48 := by
    intro e
    subst hk
    exact nz_stop (l := ds) (by omega) (UInt8.toNat_inj.1 (by rw [hz, e]; rfl))
  have hzb : ((z : Int) == 48) = false := by rw [beq_eq_false_iff_ne]; omega
  have hp := nz_pv ds
  rw [hk] at hp
  have hTd : Dec (ds.drop k) := fun c hc => hd c (List.drop_subset _ _ hc)
  have hlead : 10 ^ (m - 1) ≤ pv (ds.drop k) := by
    have h := lead_ge hd (by omega)
    rwa [hk, hTl] at h
  have hlt := pv_lt hTd
  rw [hTl] at hlt
  rw [hp]
  obtain ⟨T, hT⟩ : ∃ T, ds.drop k = T := ⟨_, rfl⟩
  rw [hT] at hTl hTd hlead hlt
  rw [hT]
  have HZ := Lib.hid (near_low_end (e := x) hlt hx)
  have g1 : x + (m : Int) < -400 := hx
  obtain ⟨XX, hXX⟩ : ∃ XX, 2 * (pv T * 10 ^ x.toNat) * S1074 = XX := ⟨_, rfl⟩
  obtain ⟨DD, hDD⟩ : ∃ DD, 10 ^ (-x).toNat = DD := ⟨_, rfl⟩
  rw [hXX, hDD] at HZ ⊢
  have hnk : (n : Int) - (k : Int) = (m : Int) := by omega
  have hnk2 : n - k = m := by omega
  have hck : ¬ cap = k := by omega
  clear hTl hTd hlead hlt hp hz hz48 hra hd hn hk hT hx hXX hDD
  go_enter Tryz.func58, Tryz.ntmps58
  go_wp2
  go_loop [5] (fun kv => ∃ j : Nat, j ≤ k ∧ kv = .int .i64 (j : Int)) (fun kv => k - (RowKit.intOf kv).toNat)
  case atStart => exact ⟨0, by omega, rfl⟩
  case round =>
    obtain ⟨j, hj, rfl⟩ := hrel
    by_cases hlt : j < k
    · have hcell := HA.out j hlt
      go_wp2_with fail
      go_round
      case rel => exact ⟨j + 1, by omega, by go_num⟩
      case measure => simp [RowKit.intOf]; omega
    · obtain rfl : j = k := by omega
      go_wp2_with fail
      go_ret
      exact ⟨0, rfl, HZ, Below.refl _ _⟩
set_option maxRecDepth 100000 in
set_option maxHeartbeats 2000000 in
theorem rvalue_high (g o n m k cap : Nat) (ds : List UInt8) (x : Int) (w : World) (hn : ds.length = n) (hk : nz ds = k) (hkm : n = k + m) (hm0 : 0 < m) (hm : m ≤ 1000) (hcap : n ≤ cap) (hcm : cap ≤ 9223372036854775807) (hx0 : -1000000 ≤ x) (hx9 : x ≤ 1000000) (hd : Dec ds) (hra : Rd .u8 w (some ⟨g, o, none⟩) (cod ds)) (hx : 400 < x + (m : Int)) :
    Calls Tryz.prog 58 #[.slice (some ⟨g, o, none⟩) n cap, .int .i64 x] w (RVal w (2 * (pv ds * 10 ^ x.toNat) * S1074) (10 ^ (-x).toNat)) := by
  have hTl : (ds.drop k).length = m := by rw [List.length_drop]; omega
  have HA := Lib.hid (fun (j : Nat) (hj : j < k) => show w.cell? ⟨g, o + j, none⟩ = some (.int .u8 48) by
    rw [rd_cell hra (j := j) (by omega), nz_at (by omega)]
    rfl)
  obtain ⟨z, hz⟩ : ∃ z, (ds[k]'(by omega)).toNat = z := ⟨_, rfl⟩
  have hzc : w.cell? ⟨g, o + k, none⟩ = some (.int .u8 (z : Int)) := by rw [rd_cell hra (j := k) (by omega), hz]
  have hz48 : z ≠ 48 := by
    intro e
    subst hk
    exact nz_stop (l := ds) (by omega) (UInt8.toNat_inj.1 (by rw [hz, e]; rfl))
  have hzb : ((z : Int) == 48) = false := by rw [beq_eq_false_iff_ne]; omega
  have hp := nz_pv ds
  rw [hk] at hp
  have hTd : Dec (ds.drop k) := fun c hc => hd c (List.drop_subset _ _ hc)
  have hlead : 10 ^ (m - 1) ≤ pv (ds.drop k) := by
    have h := lead_ge hd (by omega)
    rwa [hk, hTl] at h
  have hlt := pv_lt hTd
  rw [hTl] at hlt
  rw [hp]
  obtain ⟨T, hT⟩ : ∃ T, ds.drop k = T := ⟨_, rfl⟩
  rw [hT] at hTl hTd hlead hlt
  rw [hT]
  have HZ := Lib.hid (near_high_end (e := x) hlead (by omega) hx)
  have hfr : ∀ W : World, (callFunc 16 #[.int .u64 9218868437227405312]).run Tryz.prog W = .ok (.value (.float .f64 9218868437227405312)) W := fun W => run_f64from 9218868437227405312 W
  have g1 : ¬ x + (m : Int) < -400 := by omega
  have g2 : 400 < x + (m : Int) := hx
  obtain ⟨XX, hXX⟩ : ∃ XX, 2 * (pv T * 10 ^ x.toNat) * S1074 = XX := ⟨_, rfl⟩
  obtain ⟨DD, hDD⟩ : ∃ DD, 10 ^ (-x).toNat = DD := ⟨_, rfl⟩
  rw [hXX, hDD] at HZ ⊢
  have hnk : (n : Int) - (k : Int) = (m : Int) := by omega
  have hnk2 : n - k = m := by omega
  have hck : ¬ cap = k := by omega
  clear hTl hTd hlead hlt hp hz hz48 hra hd hn hk hT hx hXX hDD
  go_enter Tryz.func58, Tryz.ntmps58
  go_wp2
  go_loop [5] (fun kv => ∃ j : Nat, j ≤ k ∧ kv = .int .i64 (j : Int)) (fun kv => k - (RowKit.intOf kv).toNat)
  case atStart => exact ⟨0, by omega, rfl⟩
  case round =>
    obtain ⟨j, hj, rfl⟩ := hrel
    by_cases hlt : j < k
    · have hcell := HA.out j hlt
      go_wp2_with fail
      go_round
      case rel => exact ⟨j + 1, by omega, by go_num⟩
      case measure => simp [RowKit.intOf]; omega
    · obtain rfl : j = k := by omega
      go_wp2_with fail
      go_ret
      exact ⟨_, rfl, HZ, Below.refl _ _⟩
set_option maxRecDepth 100000 in
set_option maxHeartbeats 2000000 in
theorem rvalue_mid (g o n m k cap : Nat) (ds : List UInt8) (x : Int) (w : World) (hn : ds.length = n) (hk : nz ds = k) (hkm : n = k + m) (hm0 : 0 < m) (hm : m ≤ 1000) (hcap : n ≤ cap) (hcm : cap ≤ 9223372036854775807) (_hx0 : -1000000 ≤ x) (_hx9 : x ≤ 1000000) (hd : Dec ds) (hra : Rd .u8 w (some ⟨g, o, none⟩) (cod ds)) (hx1 : -400 ≤ x + (m : Int)) (hx2 : x + (m : Int) ≤ 400) :
    Calls Tryz.prog 58 #[.slice (some ⟨g, o, none⟩) n cap, .int .i64 x] w (RVal w (2 * (pv ds * 10 ^ x.toNat) * S1074) (10 ^ (-x).toNat)) := by
  have hTl : (ds.drop k).length = m := by rw [List.length_drop]; omega
  have HA := Lib.hid (fun (j : Nat) (hj : j < k) => show w.cell? ⟨g, o + j, none⟩ = some (.int .u8 48) by
    rw [rd_cell hra (j := j) (by omega), nz_at (by omega)]
    rfl)
  obtain ⟨z, hz⟩ : ∃ z, (ds[k]'(by omega)).toNat = z := ⟨_, rfl⟩
  have hzc : w.cell? ⟨g, o + k, none⟩ = some (.int .u8 (z : Int)) := by rw [rd_cell hra (j := k) (by omega), hz]
  have hz48 : z ≠ 48 := by
    intro e
    subst hk
    exact nz_stop (l := ds) (by omega) (UInt8.toNat_inj.1 (by rw [hz, e]; rfl))
  have hzb : ((z : Int) == 48) = false := by rw [beq_eq_false_iff_ne]; omega
  have hp := nz_pv ds
  rw [hk] at hp
  have hTd : Dec (ds.drop k) := fun c hc => hd c (List.drop_subset _ _ hc)
  have hlead : 10 ^ (m - 1) ≤ pv (ds.drop k) := by
    have h := lead_ge hd (by omega)
    rwa [hk, hTl] at h
  have hlt := pv_lt hTd
  rw [hTl] at hlt
  rw [hp]
  obtain ⟨T, hT⟩ : ∃ T, ds.drop k = T := ⟨_, rfl⟩
  rw [hT] at hTl hTd hlead hlt
  rw [hT]
  obtain ⟨TB, hTB⟩ : ∃ TB : ByteArray, (⟨T.toArray⟩ : ByteArray) = TB := ⟨_, rfl⟩
  have hTBl : TB.data.toList = T := by rw [← hTB]
  have hcv : (convert 83 9 (.slice (some ⟨g, o + k, none⟩) m (cap - k))).run Tryz.prog w = .ok (.string TB) w := by
    have h := conv_rd w g (o + k) (cap - k) T (by rw [← hT]; exact rd_drop hra)
    rw [hTl, hTB] at h
    exact h
  have cR := rread_end TB x w (by rw [← ba_len, hTBl]; omega) (isDec_iff.2 ⟨by rw [← ba_len, hTBl]; omega, by rw [hTBl]; exact hTd⟩)
  rw [hTBl] at cR
  obtain ⟨XX, hXX⟩ : ∃ XX, 2 * (pv T * 10 ^ x.toNat) * S1074 = XX := ⟨_, rfl⟩
  obtain ⟨DD, hDD⟩ : ∃ DD, 10 ^ (-x).toNat = DD := ⟨_, rfl⟩
  rw [hXX, hDD] at cR ⊢
  have CR := Lib.hid cR
  have g1 : ¬ x + (m : Int) < -400 := by omega
  have g2 : ¬ 400 < x + (m : Int) := by omega
  have hnk : (n : Int) - (k : Int) = (m : Int) := by omega
  have hnk2 : n - k = m := by omega
  have hck : ¬ cap = k := by omega
  clear hTl hTd hlead hlt hp hz hz48 hra hd hn hk hT hTB hTBl cR hXX hDD hx1 hx2
  go_enter Tryz.func58, Tryz.ntmps58
  go_wp2
  go_loop [5] (fun kv => ∃ j : Nat, j ≤ k ∧ kv = .int .i64 (j : Int)) (fun kv => k - (RowKit.intOf kv).toNat)
  case atStart => exact ⟨0, by omega, rfl⟩
  case round =>
    obtain ⟨j, hj, rfl⟩ := hrel
    by_cases hlt : j < k
    · have hcell := HA.out j hlt
      go_wp2_with fail
      go_round
      case rel => exact ⟨j + 1, by omega, by go_num⟩
      case measure => simp [RowKit.intOf]; omega
    · obtain rfl : j = k := by omega
      go_wp2_with fail
      refine CR.out.mono ?_
      rintro e w1 ⟨r, rfl, hr, hB⟩
      go_wp2_with fail
      go_ret
      exact ⟨r, rfl, hr, hB⟩
end Go.Proofs.YtohickpkkldmdaaGreatDoor

namespace Go.Proofs.YtohickpkkldmdaaGreatDoor
open Go.RowKit Go.Lib

theorem near_same {X D X' D' r : Nat} (hD : 0 < D) (hD' : 0 < D') (h : X * D' = X' * D) (a : Near X D r) : Near X' D' r := by
  have le1 : ∀ M, M * D ≤ X → M * D' ≤ X' := fun M hM => by
    refine Nat.le_of_mul_le_mul_right (c := D) ?_ hD
    rw [← h, Nat.mul_right_comm]
    exact Nat.mul_le_mul_right _ hM
  have le2 : ∀ M, X ≤ M * D → X' ≤ M * D' := fun M hM => by
    refine Nat.le_of_mul_le_mul_right (c := D) ?_ hD
    rw [← h, Nat.mul_right_comm]
    exact Nat.mul_le_mul_right _ hM
  have eq2 : ∀ M, X' = M * D' → X = M * D := fun M hM => by
    exact Nat.eq_of_mul_eq_mul_right hD' (by rw [h, hM, Nat.mul_right_comm])
  exact ⟨fun q e => le1 _ (a.lo q e), fun q e g => a.loe q e (eq2 _ g.symm).symm, fun g => le2 _ (a.hi g), fun g e => a.hie g (eq2 _ e), a.top⟩
/-- Are the digits from the thousandth on all noughts? -/
def rsN (T : List UInt8) (i : Nat) : Nat := if ((T.take i).drop 1000).all (· == 48) = true then 48 else 49
theorem rsN_start (T : List UInt8) : rsN T 1000 = 48 := by
  unfold rsN
  rw [List.drop_eq_nil_of_le (by rw [List.length_take]; omega)]
  rfl
theorem rsN_step {T : List UInt8} {i : Nat} (h1 : 1000 ≤ i) (h2 : i < T.length) : rsN T (i + 1) = if T[i].toNat = 48 then rsN T i else 49 := by
  unfold rsN
  have e : (T.take (i + 1)).drop 1000 = (T.take i).drop 1000 ++ [T[i]] := by
    have e0 : T.take (i + 1) = T.take i ++ [T[i]] := List.take_succ_eq_append_getElem h2
    rw [e0, List.drop_append_of_le_length (by rw [List.length_take]; omega)]
  rw [e, List.all_append]
  by_cases hc : T[i].toNat = 48
  · have hb : (T[i] == 48) = true := by rw [beq_iff_eq]; exact UInt8.toNat_inj.1 (by rw [hc]; rfl)
    rw [if_pos hc]
    simp only [List.all_cons, List.all_nil, hb, Bool.and_true]
  · have hb : (T[i] == 48) = false := by rw [beq_eq_false_iff_ne]; intro e; exact hc (by rw [e]; rfl)
    rw [if_neg hc]
    simp only [List.all_cons, List.all_nil, hb, Bool.and_false, Bool.false_and]
    rfl
theorem rsN_two (T : List UInt8) (i : Nat) : rsN T i = 48 ∨ rsN T i = 49 := by
  unfold rsN
  split
  · exact Or.inl rfl
  · exact Or.inr rfl
theorem drop_all {l : List UInt8} {p : UInt8 → Bool} : l.dropWhile p = [] ↔ l.all p = true := by
  induction l with
  | nil => exact ⟨fun _ => rfl, fun _ => rfl⟩
  | cons c t ih =>
    rw [List.dropWhile_cons, List.all_cons]
    cases h : p c with
    | true => rw [if_pos rfl, Bool.true_and]; exact ih
    | false => rw [if_neg (by decide), Bool.false_and]; exact ⟨fun e => (by cases e), fun e => (by cases e)⟩
theorem reorder {s P t a b c u v z : Nat} (e : t * a * b = c * u * v) : s * (P * t * a) * z * b = s * (P * c * u) * z * v := by
  calc s * (P * t * a) * z * b = s * P * z * (t * a * b) := by ac_rfl
    _ = s * P * z * (c * u * v) := by rw [e]
    _ = s * (P * c * u) * z * v := by ac_rfl
/-- What the cut digits give is the whole's. -/
theorem cut_thousand {T : List UInt8} {m : Nat} {x E : Int} (hTl : T.length = m) (hm : 1000 < m) (hd : Dec T) (hlead : 10 ^ (m - 1) ≤ pv T) (hE : x + (m : Int) - 1001 = E) {d : UInt8} (hdd : d.toNat = rsN T m) {r : Nat}
    (h : Near (2 * (pv (T.take 1000 ++ [d]) * 10 ^ E.toNat) * S1074) (10 ^ (-E).toNat) r) : Near (2 * (pv T * 10 ^ x.toNat) * S1074) (10 ^ (-x).toNat) r := by
  have hs : pv T = pv (T.take 1000) * 10 ^ (m - 1000) + pv (T.drop 1000) := by
    have e := pv_append (T.take 1000) (T.drop 1000)
    rw [List.take_append_drop, List.length_drop, hTl] at e
    exact e
  have hdl := pv_lt (fun c hc => hd c (List.drop_subset _ _ hc) : Dec (T.drop 1000))
  rw [List.length_drop, hTl] at hdl
  have hall : (T.take m).drop 1000 = T.drop 1000 := by rw [List.take_of_length_le (by omega)]
  obtain ⟨P, hP⟩ : ∃ P, pv (T.take 1000) = P := ⟨_, rfl⟩
  rw [hP] at hs
  obtain ⟨q, hq⟩ : ∃ q : Nat, q = 999 := ⟨_, rfl⟩
  have hPb : 10 ^ q ≤ P := by
    rcases Nat.lt_or_ge P (10 ^ q) with hlt | hge
    · exfalso
      have h1 : pv T < (P + 1) * 10 ^ (m - 1000) := by rw [hs, Nat.succ_mul]; omega
      have h2 : (P + 1) * 10 ^ (m - 1000) ≤ 10 ^ q * 10 ^ (m - 1000) := Nat.mul_le_mul_right _ hlt
      rw [← Nat.pow_add, show q + (m - 1000) = m - 1 by omega] at h2
      omega
    · exact hge
  rw [pv_append, hP] at h
  by_cases hz : ((T.take m).drop 1000).all (· == 48) = true
  · have hd48 : d = 48 := UInt8.toNat_inj.1 (by rw [hdd]; unfold rsN; rw [if_pos hz]; rfl)
    have hz0 : pv (T.drop 1000) = 0 := by
      rw [hall] at hz
      rw [← pv_trim]
      have : (T.drop 1000).dropWhile (· == 48) = [] := drop_all.2 hz
      rw [this]
      rfl
    rw [hz0, Nat.add_zero] at hs
    rw [hd48, show pv [48] = 0 by decide, Nat.add_zero, List.length_singleton, Nat.pow_one] at h
    refine near_same (Nat.pow_pos (by omega)) (Nat.pow_pos (by omega)) ?_ h
    rw [hs]
    have e : 10 * 10 ^ E.toNat * 10 ^ (-x).toNat = 10 ^ (m - 1000) * 10 ^ x.toNat * 10 ^ (-E).toNat := by
      rw [← Nat.pow_succ', ← Nat.pow_add, ← Nat.pow_add, ← Nat.pow_add]
      congr 1
      omega
    exact reorder e
  · have hd49 : d = 49 := UInt8.toNat_inj.1 (by rw [hdd]; unfold rsN; rw [if_neg hz]; rfl)
    have hpos : 0 < pv (T.drop 1000) := by
      refine pv_zero_iff (fun c hc => hd c (List.drop_subset _ _ hc)) ?_
      intro e
      rw [hall] at hz
      exact hz (drop_all.1 e)
    rw [hd49, show pv [49] = 1 by decide, List.length_singleton, Nat.pow_one] at h
    obtain ⟨t, ht⟩ : ∃ t : Nat, t = 768 := ⟨_, rfl⟩
    refine near_cut (P := P) (n := P * 10 + 1) (k := 1) (k' := m - 1000) (y := E) (t := t) ht (Nat.le_trans (Nat.pow_le_pow_right (by omega) (by omega)) hPb) (by omega) ?_ ?_ ?_ ?_ h
    · rw [Nat.pow_one]; exact Nat.lt_succ_self _
    · rw [Nat.pow_one, Nat.succ_mul]; omega
    · rw [hs]; omega
    · rw [hs, Nat.succ_mul]; omega
theorem own_empty (w : World) (t : TypeId) : Own .u8 (w.alloc (.cells #[] t)) w.heap.size t (.slice (some ⟨w.heap.size, 0, none⟩) 0 0) [] :=
  own_of_at (R := []) ⟨#[], heap_alloc_new w _, rfl⟩ (Nat.le_refl _) rfl (by decide)
set_option maxRecDepth 100000 in
set_option maxHeartbeats 2000000 in
theorem rvalue_low_long (g o n m k cap : Nat) (ds : List UInt8) (x : Int) (w : World) (hn : ds.length = n) (hk : nz ds = k) (hkm : n = k + m) (hm : 1000 < m) (hm9 : m ≤ 100000) (hcap : n ≤ cap) (hcm : cap ≤ 9223372036854775807) (hx0 : -1000000 ≤ x) (hx9 : x ≤ 1000000) (hd : Dec ds) (hra : Rd .u8 w (some ⟨g, o, none⟩) (cod ds)) (hx : x + (m : Int) < -400) :
    Calls Tryz.prog 58 #[.slice (some ⟨g, o, none⟩) n cap, .int .i64 x] w (RVal w (2 * (pv ds * 10 ^ x.toNat) * S1074) (10 ^ (-x).toNat)) := by
  obtain ⟨i0, hi, hz0, hz1, hz2⟩ := info_parts info_u8
  have hTl : (ds.drop k).length = m := by rw [List.length_drop]; omega
  have HA := Lib.hid (fun (j : Nat) (hj : j < k) => show w.cell? ⟨g, o + j, none⟩ = some (.int .u8 48) by
    rw [rd_cell hra (j := j) (by omega), nz_at (by omega)]
    rfl)
  obtain ⟨z, hz⟩ : ∃ z, (ds[k]'(by omega)).toNat = z := ⟨_, rfl⟩
  have hzc : w.cell? ⟨g, o + k, none⟩ = some (.int .u8 (z : Int)) := by rw [rd_cell hra (j := k) (by omega), hz]
  have hz48 : z ≠ 48 := by
    intro e
    subst hk
    exact nz_stop (l := ds) (by omega) (UInt8.toNat_inj.1 (by rw [hz, e]; rfl))
  have hzb : ((z : Int) == 48) = false := by rw [beq_eq_false_iff_ne]; omega
  have hp := nz_pv ds
  rw [hk] at hp
  have hTd : Dec (ds.drop k) := fun c hc => hd c (List.drop_subset _ _ hc)
  have hlead : 10 ^ (m - 1) ≤ pv (ds.drop k) := by
    have h := lead_ge hd (by omega)
    rwa [hk, hTl] at h
  have hlt := pv_lt hTd
  rw [hTl] at hlt
  rw [hp]
  have hrT : Rd .u8 w (some ⟨g, o + k, none⟩) (cod (ds.drop k)) := rd_drop hra
  obtain ⟨T, hT⟩ : ∃ T, ds.drop k = T := ⟨_, rfl⟩
  rw [hT] at hTl hTd hlead hlt hrT
  rw [hT]
  have HCT := Lib.hid (fun (j : Nat) (hj : j < m) (hj2 : j < T.length) => show w.cell? ⟨g, o + k + j, none⟩ = some (.int .u8 (((T[j]'hj2).toNat : Nat) : Int)) from rd_cell hrT hj2)
  have HTL := Lib.hid hTl
  have HST := Lib.hid (fun (i : Nat) (h1 : 1000 ≤ i) (h2 : i < T.length) => show rsN T (i + 1) = if (T[i]'h2).toNat = 48 then rsN T i else 49 from rsN_step h1 h2)
  have HS0 := Lib.hid (rsN_start T)
  obtain ⟨E, hE⟩ : ∃ E, x + (m : Int) - 1001 = E := ⟨_, rfl⟩
  have hKt : (T.take 1000).length = 1000 := by rw [List.length_take]; omega
  have HNW := Lib.hid (fun (W : World) (hb : Below w.heap.size w W) => show Rd .u8 W (some ⟨g, o + k, none⟩) (cod (T.take 1000)) by
    have h := (hrT.below hb).take 1000
    have e : (cod T).take 1000 = cod (T.take 1000) := List.map_take.symm
    rwa [e] at h)
  have HKd := Lib.hid (show Dec (T.take 1000) from fun c hc => hTd c (List.take_subset _ _ hc))
  have HKL := Lib.hid hKt
  have HZ := Lib.hid (near_low_end (e := x) hlt hx)
  have g1 : E + 1001 < -400 := by omega
  obtain ⟨XX, hXX⟩ : ∃ XX, 2 * (pv T * 10 ^ x.toNat) * S1074 = XX := ⟨_, rfl⟩
  obtain ⟨DD, hDD⟩ : ∃ DD, 10 ^ (-x).toNat = DD := ⟨_, rfl⟩
  rw [hXX, hDD] at HZ ⊢
  have hnk : (n : Int) - (k : Int) = (m : Int) := by omega
  have hnk2 : n - k = m := by omega
  have hck : ¬ cap = k := by omega
  have h1000 : 1000 ≤ cap - k := by omega
  have h1000i : (1000 : Int) ≤ ((cap - k : Nat) : Int) := by omega
  have hEb1 : -2000000 ≤ E := by omega
  have hEb2 : E ≤ 2000000 := by omega
  clear hTl hTd hlead hlt hp hz hz48 hra hd hn hk hT hrT hKt hXX hDD hx
  go_enter Tryz.func58, Tryz.ntmps58
  go_wp2
  go_loop [5] (fun kv => ∃ j : Nat, j ≤ k ∧ kv = .int .i64 (j : Int)) (fun kv => k - (RowKit.intOf kv).toNat)
  case atStart => exact ⟨0, by omega, rfl⟩
  case round =>
    obtain ⟨j, hj, rfl⟩ := hrel
    by_cases hlt : j < k
    · have hcell := HA.out j hlt
      go_wp2_with fail
      go_round
      case rel => exact ⟨j + 1, by omega, by go_num⟩
      case measure => simp [RowKit.intOf]; omega
    · obtain rfl : k = j := by omega
      go_wp2_with fail
      go_loop [6, 7] (fun rv iv => ∃ i r : Nat, 1000 ≤ i ∧ i ≤ m ∧ iv = .int .i64 (i : Int) ∧ rv = .int .u8 (r : Int) ∧ r = rsN T i) (fun _ iv => m - (RowKit.intOf iv).toNat)
      case atStart => exact ⟨1000, 48, by omega, by omega, rfl, rfl, HS0.out.symm⟩
      case round =>
        obtain ⟨i, r, hi1, hi2, rfl, rfl, hr⟩ := hrel
        have HR := Lib.hid hr
        clear hr
        by_cases him : i < m
        · have him2 : i < T.length := by rw [HTL.out]; exact him
          have hcell := HCT.out i him him2
          have hst := HST.out i hi1 him2
          obtain ⟨y, hy⟩ : ∃ y, (T[i]'him2).toNat = y := ⟨_, rfl⟩
          rw [hy] at hcell hst
          have hcell2 : w.cell? ⟨g, o + (k + i), none⟩ = some (.int .u8 (y : Int)) := by rw [← Nat.add_assoc]; exact hcell
          have hyb := hy ▸ UInt8.toNat_lt (T[i]'him2)
          clear hy
          by_cases hy48 : y = 48
          · have hb : ((y : Int) != 48) = false := by rw [bne_eq_false_iff_eq]; omega
            rw [if_pos hy48] at hst
            have HN := Lib.hid (show r = rsN T (i + 1) by rw [hst]; exact HR.out)
            clear hst hy48
            go_wp2_with fail
            go_round
            case rel => exact ⟨i + 1, r, by omega, by omega, by go_num, rfl, HN.out⟩
            case measure => simp [RowKit.intOf]; omega
          · have hb : ((y : Int) != 48) = true := by rw [bne_iff_ne]; omega
            rw [if_neg hy48] at hst
            have HN := Lib.hid hst.symm
            clear hst hy48
            go_wp2_with fail
            go_round
            case rel => exact ⟨i + 1, 49, by omega, by omega, by go_num, rfl, HN.out⟩
            case measure => simp [RowKit.intOf]; omega
        · obtain rfl : m = i := by omega
          have hr2 : r = 48 ∨ r = 49 := by rw [HR.out]; exact rsN_two T _
          have hE0 := own_empty w 5
          have hb1 := (Below.refl w.heap.size w).alloc (Nat.le_refl _) (.cells #[] 5)
          have hsrc := (HNW.out _ (Below.alloc (Below.refl w.heap.size w) (Nat.le_refl _) (.cells #[] 5))).news
          go_wp2_with (at_builtin; refine wpList_append_own _ rfl _ _ 83 rfl w.heap.size 5 i0 (.int .u8 0) 1 1 Tryz.underlying83 hi hz0 hz1 hz2 rfl (by decide) _ 0 [] rfl hE0 ⟨g, o + k, none⟩ 1000 (cap - k) (nums .u8 (cod (T.take 1000))) rfl ?c1 hsrc (nums_one _ _) ?c3 ?c4 ?c5 ?_)
          try (case c1 => rw [nums_len, cod_len]; have := HKL.out; omega)
          try (case c3 => unfold maxLen; omega)
          try (case c4 => omega)
          try (case c5 => simp)
          intro v1 w1 hown1 hgrow1 _
          have hO1 : Own .u8 w1 w.heap.size 5 v1 (cod (T.take 1000)) := by
            unfold Own
            rw [cod_len, HKL.out]
            exact hown1
          have hB1 : Below w.heap.size w w1 := hb1.grown hgrow1 (by simp) (fun z e => (World.ownsRow.lt hE0 z e).1)
          have hown2 := hO1.row (n := 1000) (by rw [cod_len]; exact HKL.out)
          have HO1 := Lib.hid hO1
          have hsz1 := hB1.size
          clear hown1 hgrow1 hO1 hsrc hE0 hb1
          go_wp2_with (at_builtin; refine wpList_append_own _ rfl _ _ 83 rfl w.heap.size 5 i0 (.int .u8 0) 1 1 Tryz.underlying83 hi hz0 hz1 hz2 rfl (by decide) _ 1000 _ rfl (hown2.alloc _) ⟨w1.heap.size, 0, none⟩ 1 1 [.int .u8 (r : Int)] rfl rfl (cell_one_new _ _ _) ?d2 ?d3 ?d4 ?d5 ?_)
          try (case d2 => simp [Value.oneCell'])
          try (case d3 => unfold maxLen; omega)
          try (case d4 => omega)
          try (case d5 => simp; omega)
          intro v2 w2 hown3 hgrow2 _
          have hO2 : Own .u8 w2 w.heap.size 5 v2 (cod (T.take 1000) ++ [r]) := Own.snoc hown3 (by rw [cod_len]; exact HKL.out.symm)
          have hB2 : Below w.heap.size w w2 := (hB1.alloc hsz1 _).grown hgrow2 (by simp; omega) (fun z e => (World.ownsRow.lt HO1.out z e).1)
          obtain ⟨d, hdr⟩ : ∃ d : UInt8, d.toNat = r := hr2.elim (fun h => ⟨48, by rw [h]; rfl⟩) (fun h => ⟨49, by rw [h]; rfl⟩)
          have hcod : cod (T.take 1000) ++ [r] = cod (T.take 1000 ++ [d]) := by rw [← hdr]; simp [cod]
          rw [hcod] at hO2
          have hLl : (T.take 1000 ++ [d]).length = 1001 := by rw [List.length_append, HKL.out]; rfl
          obtain ⟨A2, c2, rfl, hc21, hc22⟩ := hO2.slice
          rw [cod_len, hLl] at hc21
          rw [cod_len, hLl] at hO2 ⊢
          clear hown2 hown3 hgrow2 HO1 hcod hr2 hdr
          go_wp2_with fail
          go_ret
          exact ⟨0, rfl, HZ, hB2⟩
set_option maxRecDepth 100000 in
set_option maxHeartbeats 2000000 in
theorem rvalue_high_long (g o n m k cap : Nat) (ds : List UInt8) (x : Int) (w : World) (hn : ds.length = n) (hk : nz ds = k) (hkm : n = k + m) (hm : 1000 < m) (hm9 : m ≤ 100000) (hcap : n ≤ cap) (hcm : cap ≤ 9223372036854775807) (hx0 : -1000000 ≤ x) (hx9 : x ≤ 1000000) (hd : Dec ds) (hra : Rd .u8 w (some ⟨g, o, none⟩) (cod ds)) (hx : 400 < x + (m : Int)) :
    Calls Tryz.prog 58 #[.slice (some ⟨g, o, none⟩) n cap, .int .i64 x] w (RVal w (2 * (pv ds * 10 ^ x.toNat) * S1074) (10 ^ (-x).toNat)) := by
  obtain ⟨i0, hi, hz0, hz1, hz2⟩ := info_parts info_u8
  have hTl : (ds.drop k).length = m := by rw [List.length_drop]; omega
  have HA := Lib.hid (fun (j : Nat) (hj : j < k) => show w.cell? ⟨g, o + j, none⟩ = some (.int .u8 48) by
    rw [rd_cell hra (j := j) (by omega), nz_at (by omega)]
    rfl)
  obtain ⟨z, hz⟩ : ∃ z, (ds[k]'(by omega)).toNat = z := ⟨_, rfl⟩
  have hzc : w.cell? ⟨g, o + k, none⟩ = some (.int .u8 (z : Int)) := by rw [rd_cell hra (j := k) (by omega), hz]
  have hz48 : z ≠ 48 := by
    intro e
    subst hk
    exact nz_stop (l := ds) (by omega) (UInt8.toNat_inj.1 (by rw [hz, e]; rfl))
  have hzb : ((z : Int) == 48) = false := by rw [beq_eq_false_iff_ne]; omega
  have hp := nz_pv ds
  rw [hk] at hp
  have hTd : Dec (ds.drop k) := fun c hc => hd c (List.drop_subset _ _ hc)
  have hlead : 10 ^ (m - 1) ≤ pv (ds.drop k) := by
    have h := lead_ge hd (by omega)
    rwa [hk, hTl] at h
  have hlt := pv_lt hTd
  rw [hTl] at hlt
  rw [hp]
  have hrT : Rd .u8 w (some ⟨g, o + k, none⟩) (cod (ds.drop k)) := rd_drop hra
  obtain ⟨T, hT⟩ : ∃ T, ds.drop k = T := ⟨_, rfl⟩
  rw [hT] at hTl hTd hlead hlt hrT
  rw [hT]
  have HCT := Lib.hid (fun (j : Nat) (hj : j < m) (hj2 : j < T.length) => show w.cell? ⟨g, o + k + j, none⟩ = some (.int .u8 (((T[j]'hj2).toNat : Nat) : Int)) from rd_cell hrT hj2)
  have HTL := Lib.hid hTl
  have HST := Lib.hid (fun (i : Nat) (h1 : 1000 ≤ i) (h2 : i < T.length) => show rsN T (i + 1) = if (T[i]'h2).toNat = 48 then rsN T i else 49 from rsN_step h1 h2)
  have HS0 := Lib.hid (rsN_start T)
  obtain ⟨E, hE⟩ : ∃ E, x + (m : Int) - 1001 = E := ⟨_, rfl⟩
  have hKt : (T.take 1000).length = 1000 := by rw [List.length_take]; omega
  have HNW := Lib.hid (fun (W : World) (hb : Below w.heap.size w W) => show Rd .u8 W (some ⟨g, o + k, none⟩) (cod (T.take 1000)) by
    have h := (hrT.below hb).take 1000
    have e : (cod T).take 1000 = cod (T.take 1000) := List.map_take.symm
    rwa [e] at h)
  have HKd := Lib.hid (show Dec (T.take 1000) from fun c hc => hTd c (List.take_subset _ _ hc))
  have HKL := Lib.hid hKt
  have HZ := Lib.hid (near_high_end (e := x) hlead (by omega) hx)
  have hfr : ∀ W : World, (callFunc 16 #[.int .u64 9218868437227405312]).run Tryz.prog W = .ok (.value (.float .f64 9218868437227405312)) W := fun W => run_f64from 9218868437227405312 W
  have g1 : ¬ E + 1001 < -400 := by omega
  have g2 : 400 < E + 1001 := by omega
  obtain ⟨XX, hXX⟩ : ∃ XX, 2 * (pv T * 10 ^ x.toNat) * S1074 = XX := ⟨_, rfl⟩
  obtain ⟨DD, hDD⟩ : ∃ DD, 10 ^ (-x).toNat = DD := ⟨_, rfl⟩
  rw [hXX, hDD] at HZ ⊢
  have hnk : (n : Int) - (k : Int) = (m : Int) := by omega
  have hnk2 : n - k = m := by omega
  have hck : ¬ cap = k := by omega
  have h1000 : 1000 ≤ cap - k := by omega
  have h1000i : (1000 : Int) ≤ ((cap - k : Nat) : Int) := by omega
  have hEb1 : -2000000 ≤ E := by omega
  have hEb2 : E ≤ 2000000 := by omega
  clear hTl hTd hlead hlt hp hz hz48 hra hd hn hk hT hrT hKt hXX hDD hx
  go_enter Tryz.func58, Tryz.ntmps58
  go_wp2
  go_loop [5] (fun kv => ∃ j : Nat, j ≤ k ∧ kv = .int .i64 (j : Int)) (fun kv => k - (RowKit.intOf kv).toNat)
  case atStart => exact ⟨0, by omega, rfl⟩
  case round =>
    obtain ⟨j, hj, rfl⟩ := hrel
    by_cases hlt : j < k
    · have hcell := HA.out j hlt
      go_wp2_with fail
      go_round
      case rel => exact ⟨j + 1, by omega, by go_num⟩
      case measure => simp [RowKit.intOf]; omega
    · obtain rfl : k = j := by omega
      go_wp2_with fail
      go_loop [6, 7] (fun rv iv => ∃ i r : Nat, 1000 ≤ i ∧ i ≤ m ∧ iv = .int .i64 (i : Int) ∧ rv = .int .u8 (r : Int) ∧ r = rsN T i) (fun _ iv => m - (RowKit.intOf iv).toNat)
      case atStart => exact ⟨1000, 48, by omega, by omega, rfl, rfl, HS0.out.symm⟩
      case round =>
        obtain ⟨i, r, hi1, hi2, rfl, rfl, hr⟩ := hrel
        have HR := Lib.hid hr
        clear hr
        by_cases him : i < m
        · have him2 : i < T.length := by rw [HTL.out]; exact him
          have hcell := HCT.out i him him2
          have hst := HST.out i hi1 him2
          obtain ⟨y, hy⟩ : ∃ y, (T[i]'him2).toNat = y := ⟨_, rfl⟩
          rw [hy] at hcell hst
          have hcell2 : w.cell? ⟨g, o + (k + i), none⟩ = some (.int .u8 (y : Int)) := by rw [← Nat.add_assoc]; exact hcell
          have hyb := hy ▸ UInt8.toNat_lt (T[i]'him2)
          clear hy
          by_cases hy48 : y = 48
          · have hb : ((y : Int) != 48) = false := by rw [bne_eq_false_iff_eq]; omega
            rw [if_pos hy48] at hst
            have HN := Lib.hid (show r = rsN T (i + 1) by rw [hst]; exact HR.out)
            clear hst hy48
            go_wp2_with fail
            go_round
            case rel => exact ⟨i + 1, r, by omega, by omega, by go_num, rfl, HN.out⟩
            case measure => simp [RowKit.intOf]; omega
          · have hb : ((y : Int) != 48) = true := by rw [bne_iff_ne]; omega
            rw [if_neg hy48] at hst
            have HN := Lib.hid hst.symm
            clear hst hy48
            go_wp2_with fail
            go_round
            case rel => exact ⟨i + 1, 49, by omega, by omega, by go_num, rfl, HN.out⟩
            case measure => simp [RowKit.intOf]; omega
        · obtain rfl : m = i := by omega
          have hr2 : r = 48 ∨ r = 49 := by rw [HR.out]; exact rsN_two T _
          have hE0 := own_empty w 5
          have hb1 := (Below.refl w.heap.size w).alloc (Nat.le_refl _) (.cells #[] 5)
          have hsrc := (HNW.out _ (Below.alloc (Below.refl w.heap.size w) (Nat.le_refl _) (.cells #[] 5))).news
          go_wp2_with (at_builtin; refine wpList_append_own _ rfl _ _ 83 rfl w.heap.size 5 i0 (.int .u8 0) 1 1 Tryz.underlying83 hi hz0 hz1 hz2 rfl (by decide) _ 0 [] rfl hE0 ⟨g, o + k, none⟩ 1000 (cap - k) (nums .u8 (cod (T.take 1000))) rfl ?c1 hsrc (nums_one _ _) ?c3 ?c4 ?c5 ?_)
          try (case c1 => rw [nums_len, cod_len]; have := HKL.out; omega)
          try (case c3 => unfold maxLen; omega)
          try (case c4 => omega)
          try (case c5 => simp)
          intro v1 w1 hown1 hgrow1 _
          have hO1 : Own .u8 w1 w.heap.size 5 v1 (cod (T.take 1000)) := by
            unfold Own
            rw [cod_len, HKL.out]
            exact hown1
          have hB1 : Below w.heap.size w w1 := hb1.grown hgrow1 (by simp) (fun z e => (World.ownsRow.lt hE0 z e).1)
          have hown2 := hO1.row (n := 1000) (by rw [cod_len]; exact HKL.out)
          have HO1 := Lib.hid hO1
          have hsz1 := hB1.size
          clear hown1 hgrow1 hO1 hsrc hE0 hb1
          go_wp2_with (at_builtin; refine wpList_append_own _ rfl _ _ 83 rfl w.heap.size 5 i0 (.int .u8 0) 1 1 Tryz.underlying83 hi hz0 hz1 hz2 rfl (by decide) _ 1000 _ rfl (hown2.alloc _) ⟨w1.heap.size, 0, none⟩ 1 1 [.int .u8 (r : Int)] rfl rfl (cell_one_new _ _ _) ?d2 ?d3 ?d4 ?d5 ?_)
          try (case d2 => simp [Value.oneCell'])
          try (case d3 => unfold maxLen; omega)
          try (case d4 => omega)
          try (case d5 => simp; omega)
          intro v2 w2 hown3 hgrow2 _
          have hO2 : Own .u8 w2 w.heap.size 5 v2 (cod (T.take 1000) ++ [r]) := Own.snoc hown3 (by rw [cod_len]; exact HKL.out.symm)
          have hB2 : Below w.heap.size w w2 := (hB1.alloc hsz1 _).grown hgrow2 (by simp; omega) (fun z e => (World.ownsRow.lt HO1.out z e).1)
          obtain ⟨d, hdr⟩ : ∃ d : UInt8, d.toNat = r := hr2.elim (fun h => ⟨48, by rw [h]; rfl⟩) (fun h => ⟨49, by rw [h]; rfl⟩)
          have hcod : cod (T.take 1000) ++ [r] = cod (T.take 1000 ++ [d]) := by rw [← hdr]; simp [cod]
          rw [hcod] at hO2
          have hLl : (T.take 1000 ++ [d]).length = 1001 := by rw [List.length_append, HKL.out]; rfl
          obtain ⟨A2, c2, rfl, hc21, hc22⟩ := hO2.slice
          rw [cod_len, hLl] at hc21
          rw [cod_len, hLl] at hO2 ⊢
          clear hown2 hown3 hgrow2 HO1 hcod hr2 hdr
          go_wp2_with fail
          go_ret
          exact ⟨_, rfl, HZ, hB2⟩
set_option maxRecDepth 100000 in
set_option maxHeartbeats 2000000 in
theorem rvalue_mid_long (g o n m k cap : Nat) (ds : List UInt8) (x : Int) (w : World) (hn : ds.length = n) (hk : nz ds = k) (hkm : n = k + m) (hm : 1000 < m) (hm9 : m ≤ 100000) (hcap : n ≤ cap) (hcm : cap ≤ 9223372036854775807) (_hx0 : -1000000 ≤ x) (_hx9 : x ≤ 1000000) (hd : Dec ds) (hra : Rd .u8 w (some ⟨g, o, none⟩) (cod ds)) (hx1 : -400 ≤ x + (m : Int)) (hx2 : x + (m : Int) ≤ 400) :
    Calls Tryz.prog 58 #[.slice (some ⟨g, o, none⟩) n cap, .int .i64 x] w (RVal w (2 * (pv ds * 10 ^ x.toNat) * S1074) (10 ^ (-x).toNat)) := by
  obtain ⟨i0, hi, hz0, hz1, hz2⟩ := info_parts info_u8
  have hTl : (ds.drop k).length = m := by rw [List.length_drop]; omega
  have HA := Lib.hid (fun (j : Nat) (hj : j < k) => show w.cell? ⟨g, o + j, none⟩ = some (.int .u8 48) by
    rw [rd_cell hra (j := j) (by omega), nz_at (by omega)]
    rfl)
  obtain ⟨z, hz⟩ : ∃ z, (ds[k]'(by omega)).toNat = z := ⟨_, rfl⟩
  have hzc : w.cell? ⟨g, o + k, none⟩ = some (.int .u8 (z : Int)) := by rw [rd_cell hra (j := k) (by omega), hz]
  have hz48 : z ≠ 48 := by
    intro e
    subst hk
    exact nz_stop (l := ds) (by omega) (UInt8.toNat_inj.1 (by rw [hz, e]; rfl))
  have hzb : ((z : Int) == 48) = false := by rw [beq_eq_false_iff_ne]; omega
  have hp := nz_pv ds
  rw [hk] at hp
  have hTd : Dec (ds.drop k) := fun c hc => hd c (List.drop_subset _ _ hc)
  have hlead : 10 ^ (m - 1) ≤ pv (ds.drop k) := by
    have h := lead_ge hd (by omega)
    rwa [hk, hTl] at h
  have hlt := pv_lt hTd
  rw [hTl] at hlt
  rw [hp]
  have hrT : Rd .u8 w (some ⟨g, o + k, none⟩) (cod (ds.drop k)) := rd_drop hra
  obtain ⟨T, hT⟩ : ∃ T, ds.drop k = T := ⟨_, rfl⟩
  rw [hT] at hTl hTd hlead hlt hrT
  rw [hT]
  have HCT := Lib.hid (fun (j : Nat) (hj : j < m) (hj2 : j < T.length) => show w.cell? ⟨g, o + k + j, none⟩ = some (.int .u8 (((T[j]'hj2).toNat : Nat) : Int)) from rd_cell hrT hj2)
  have HTL := Lib.hid hTl
  have HST := Lib.hid (fun (i : Nat) (h1 : 1000 ≤ i) (h2 : i < T.length) => show rsN T (i + 1) = if (T[i]'h2).toNat = 48 then rsN T i else 49 from rsN_step h1 h2)
  have HS0 := Lib.hid (rsN_start T)
  obtain ⟨E, hE⟩ : ∃ E, x + (m : Int) - 1001 = E := ⟨_, rfl⟩
  have hKt : (T.take 1000).length = 1000 := by rw [List.length_take]; omega
  have HNW := Lib.hid (fun (W : World) (hb : Below w.heap.size w W) => show Rd .u8 W (some ⟨g, o + k, none⟩) (cod (T.take 1000)) by
    have h := (hrT.below hb).take 1000
    have e : (cod T).take 1000 = cod (T.take 1000) := List.map_take.symm
    rwa [e] at h)
  have HKd := Lib.hid (show Dec (T.take 1000) from fun c hc => hTd c (List.take_subset _ _ hc))
  have HKL := Lib.hid hKt
  have HM := Lib.hid (fun (d : UInt8) (hdd : d.toNat = rsN T m) (r : Nat) h => cut_thousand (r := r) hTl hm hTd hlead hE hdd h)
  have g1 : ¬ E + 1001 < -400 := by omega
  have g2 : ¬ 400 < E + 1001 := by omega
  obtain ⟨XX, hXX⟩ : ∃ XX, 2 * (pv T * 10 ^ x.toNat) * S1074 = XX := ⟨_, rfl⟩
  obtain ⟨DD, hDD⟩ : ∃ DD, 10 ^ (-x).toNat = DD := ⟨_, rfl⟩
  rw [hXX, hDD] at HM ⊢
  have hnk : (n : Int) - (k : Int) = (m : Int) := by omega
  have hnk2 : n - k = m := by omega
  have hck : ¬ cap = k := by omega
  have h1000 : 1000 ≤ cap - k := by omega
  have h1000i : (1000 : Int) ≤ ((cap - k : Nat) : Int) := by omega
  have hEb1 : -2000000 ≤ E := by omega
  have hEb2 : E ≤ 2000000 := by omega
  clear hTl hTd hlead hlt hp hz hz48 hra hd hn hk hT hrT hKt hXX hDD hx1 hx2
  go_enter Tryz.func58, Tryz.ntmps58
  go_wp2
  go_loop [5] (fun kv => ∃ j : Nat, j ≤ k ∧ kv = .int .i64 (j : Int)) (fun kv => k - (RowKit.intOf kv).toNat)
  case atStart => exact ⟨0, by omega, rfl⟩
  case round =>
    obtain ⟨j, hj, rfl⟩ := hrel
    by_cases hlt : j < k
    · have hcell := HA.out j hlt
      go_wp2_with fail
      go_round
      case rel => exact ⟨j + 1, by omega, by go_num⟩
      case measure => simp [RowKit.intOf]; omega
    · obtain rfl : k = j := by omega
      go_wp2_with fail
      go_loop [6, 7] (fun rv iv => ∃ i r : Nat, 1000 ≤ i ∧ i ≤ m ∧ iv = .int .i64 (i : Int) ∧ rv = .int .u8 (r : Int) ∧ r = rsN T i) (fun _ iv => m - (RowKit.intOf iv).toNat)
      case atStart => exact ⟨1000, 48, by omega, by omega, rfl, rfl, HS0.out.symm⟩
      case round =>
        obtain ⟨i, r, hi1, hi2, rfl, rfl, hr⟩ := hrel
        have HR := Lib.hid hr
        clear hr
        by_cases him : i < m
        · have him2 : i < T.length := by rw [HTL.out]; exact him
          have hcell := HCT.out i him him2
          have hst := HST.out i hi1 him2
          obtain ⟨y, hy⟩ : ∃ y, (T[i]'him2).toNat = y := ⟨_, rfl⟩
          rw [hy] at hcell hst
          have hcell2 : w.cell? ⟨g, o + (k + i), none⟩ = some (.int .u8 (y : Int)) := by rw [← Nat.add_assoc]; exact hcell
          have hyb := hy ▸ UInt8.toNat_lt (T[i]'him2)
          clear hy
          by_cases hy48 : y = 48
          · have hb : ((y : Int) != 48) = false := by rw [bne_eq_false_iff_eq]; omega
            rw [if_pos hy48] at hst
            have HN := Lib.hid (show r = rsN T (i + 1) by rw [hst]; exact HR.out)
            clear hst hy48
            go_wp2_with fail
            go_round
            case rel => exact ⟨i + 1, r, by omega, by omega, by go_num, rfl, HN.out⟩
            case measure => simp [RowKit.intOf]; omega
          · have hb : ((y : Int) != 48) = true := by rw [bne_iff_ne]; omega
            rw [if_neg hy48] at hst
            have HN := Lib.hid hst.symm
            clear hst hy48
            go_wp2_with fail
            go_round
            case rel => exact ⟨i + 1, 49, by omega, by omega, by go_num, rfl, HN.out⟩
            case measure => simp [RowKit.intOf]; omega
        · obtain rfl : m = i := by omega
          have hr2 : r = 48 ∨ r = 49 := by rw [HR.out]; exact rsN_two T _
          have hE0 := own_empty w 5
          have hb1 := (Below.refl w.heap.size w).alloc (Nat.le_refl _) (.cells #[] 5)
          have hsrc := (HNW.out _ (Below.alloc (Below.refl w.heap.size w) (Nat.le_refl _) (.cells #[] 5))).news
          go_wp2_with (at_builtin; refine wpList_append_own _ rfl _ _ 83 rfl w.heap.size 5 i0 (.int .u8 0) 1 1 Tryz.underlying83 hi hz0 hz1 hz2 rfl (by decide) _ 0 [] rfl hE0 ⟨g, o + k, none⟩ 1000 (cap - k) (nums .u8 (cod (T.take 1000))) rfl ?c1 hsrc (nums_one _ _) ?c3 ?c4 ?c5 ?_)
          try (case c1 => rw [nums_len, cod_len]; have := HKL.out; omega)
          try (case c3 => unfold maxLen; omega)
          try (case c4 => omega)
          try (case c5 => simp)
          intro v1 w1 hown1 hgrow1 _
          have hO1 : Own .u8 w1 w.heap.size 5 v1 (cod (T.take 1000)) := by
            unfold Own
            rw [cod_len, HKL.out]
            exact hown1
          have hB1 : Below w.heap.size w w1 := hb1.grown hgrow1 (by simp) (fun z e => (World.ownsRow.lt hE0 z e).1)
          have hown2 := hO1.row (n := 1000) (by rw [cod_len]; exact HKL.out)
          have HO1 := Lib.hid hO1
          have hsz1 := hB1.size
          clear hown1 hgrow1 hO1 hsrc hE0 hb1
          go_wp2_with (at_builtin; refine wpList_append_own _ rfl _ _ 83 rfl w.heap.size 5 i0 (.int .u8 0) 1 1 Tryz.underlying83 hi hz0 hz1 hz2 rfl (by decide) _ 1000 _ rfl (hown2.alloc _) ⟨w1.heap.size, 0, none⟩ 1 1 [.int .u8 (r : Int)] rfl rfl (cell_one_new _ _ _) ?d2 ?d3 ?d4 ?d5 ?_)
          try (case d2 => simp [Value.oneCell'])
          try (case d3 => unfold maxLen; omega)
          try (case d4 => omega)
          try (case d5 => simp; omega)
          intro v2 w2 hown3 hgrow2 _
          have hO2 : Own .u8 w2 w.heap.size 5 v2 (cod (T.take 1000) ++ [r]) := Own.snoc hown3 (by rw [cod_len]; exact HKL.out.symm)
          have hB2 : Below w.heap.size w w2 := (hB1.alloc hsz1 _).grown hgrow2 (by simp; omega) (fun z e => (World.ownsRow.lt HO1.out z e).1)
          obtain ⟨d, hdr⟩ : ∃ d : UInt8, d.toNat = r := hr2.elim (fun h => ⟨48, by rw [h]; rfl⟩) (fun h => ⟨49, by rw [h]; rfl⟩)
          have hcod : cod (T.take 1000) ++ [r] = cod (T.take 1000 ++ [d]) := by rw [← hdr]; simp [cod]
          rw [hcod] at hO2
          have hLl : (T.take 1000 ++ [d]).length = 1001 := by rw [List.length_append, HKL.out]; rfl
          obtain ⟨A2, c2, rfl, hc21, hc22⟩ := hO2.slice
          rw [cod_len, hLl] at hc21
          rw [cod_len, hLl] at hO2 ⊢
          obtain ⟨g2, rfl, hg2⟩ := hO2.addr (by rw [cod_len, hLl]; omega)
          have hcv := conv_rd w2 g2 0 c2 (T.take 1000 ++ [d]) hO2.rd
          rw [hLl] at hcv
          obtain ⟨LB, hLB⟩ : ∃ LB : ByteArray, (⟨(T.take 1000 ++ [d]).toArray⟩ : ByteArray) = LB := ⟨_, rfl⟩
          have hLBl : LB.data.toList = T.take 1000 ++ [d] := by rw [← hLB]
          rw [hLB] at hcv
          have cR := rread_end LB E w2 (by rw [← ba_len, hLBl, hLl]; omega) (isDec_iff.2 ⟨by rw [← ba_len, hLBl, hLl]; omega, by
            rw [hLBl]
            intro c hc
            rcases List.mem_append.1 hc with h | h
            · exact HKd.out c h
            · rw [List.mem_singleton.1 h, hdr]
              omega⟩)
          rw [hLBl] at cR
          have CR := Lib.hid cR
          have HMM := Lib.hid (fun r0 h => HM.out d (by rw [hdr]; exact HR.out) r0 h)
          clear hown2 hown3 hgrow2 HO1 hcod hr2 hdr cR hLBl hLB hO2
          go_wp2_with fail
          refine CR.out.mono ?_
          rintro e w3 ⟨r0, rfl, hr0, hB3⟩
          have hB4 := hB2.trans (hB3.mono hB2.size)
          have HF := Lib.hid (HMM.out r0 hr0.out)
          clear hr0 hB3
          go_wp2_with fail
          go_ret
          exact ⟨r0, rfl, HF, hB4⟩
end Go.Proofs.YtohickpkkldmdaaGreatDoor

namespace Go.Proofs.YtohickpkkldmdaaGreatDoor
open Go.RowKit Go.Lib

/-- What Sci answers of the float r with p digits behind the first one. -/
noncomputable def sciX (r p : Nat) : List UInt8 × Int :=
  @dite _ (∃ x : Int × Nat, SciOk (amN r) (amD r) p x.1 x.2) (Classical.propDecidable _) (fun h => (decs (Classical.choose h).2, (Classical.choose h).1)) (fun _ => (List.replicate (p + 1) 48, 0))
theorem sciX_of {r p M : Nat} {P : Int} (ok : SciOk (amN r) (amD r) p P M) : sciX r p = (decs M, P) := by
  unfold sciX
  have h : ∃ x : Int × Nat, SciOk (amN r) (amD r) p x.1 x.2 := ⟨(P, M), ok⟩
  rw [dif_pos h]
  obtain ⟨e1, e2⟩ := (Classical.choose_spec h).uniq (amD_pos r) ok
  rw [e1, e2]
theorem amN_zero : amN 0 = 0 := by decide
theorem sciX_zero (p : Nat) : sciX 0 p = (List.replicate (p + 1) 48, 0) := by
  unfold sciX
  refine dif_neg ?_
  rintro ⟨⟨P, M⟩, ok⟩
  have h1 := ok.val
  have h2 := ok.low
  have h3 := Nat.pow_pos (n := p) (show 0 < 10 by omega)
  simp only at h1 h2
  rw [h1, amN_zero] at h2
  unfold sciM rnd at h2
  rw [Nat.zero_mul, Nat.zero_div, Nat.zero_mod] at h2
  rw [if_neg] at h2
  · omega
  · have := Nat.mul_pos (amD_pos 0) (Nat.pow_pos (n := (-((p : Int) - P)).toNat) (show 0 < 10 by omega))
    omega
theorem sci_has (w : World) {r p : Nat} (h0 : 0 < r) (hr : r < 9218868437227405312) (hp : p ≤ 200) : ∃ P M, SciOk (amN r) (amD r) p P M := by
  have hm : mag r = r := mag_no hr
  obtain ⟨e, w', fr, ⟨⟨P, M, ok, _⟩, _⟩, _⟩ := sci_yes r p w (by omega) (by rw [hm]; exact h0) (by rw [hm]; exact hr) hp []
  rw [hm] at ok
  exact ⟨P, M, ok⟩
theorem sciX_facts (w : World) {r p : Nat} (hr : r < 9218868437227405312) (hp : p ≤ 200) : (sciX r p).1.length = p + 1 ∧ Dec (sciX r p).1 ∧ -400 ≤ (sciX r p).2 ∧ (sciX r p).2 ≤ 400 := by
  rcases Nat.eq_zero_or_pos r with rfl | h0
  · rw [sciX_zero]
    exact ⟨List.length_replicate, dec_noughts _, show (-400 : Int) ≤ 0 by decide, show (0 : Int) ≤ 400 by decide⟩
  · obtain ⟨P, M, ok⟩ := sci_has w h0 hr hp
    rw [sciX_of ok]
    exact ⟨decs_len_of ok.low ok.high, dec_decs M, ok.bd.1, ok.bd.2⟩
/-- Digits with a point behind the first. -/
def ptT (d : List UInt8) (q : Bool) : List UInt8 := if q = true then d.take 1 ++ 46 :: d.drop 1 else d
/-- The power of ten. -/
def expT (P : Int) : List UInt8 := (if P < 0 then [101, 45] else [101, 43]) ++ ((if P.natAbs < 10 then [48] else []) ++ decs P.natAbs)
def fixP (r q : Nat) (full : Bool) : List UInt8 := fixT (decs (rnd (amN r * 10 ^ q) (amD r))) q ++ if q = 0 ∧ full = true then [46] else []
/-- Without noughts at the end, and without a point there. -/
def trimG (full : Bool) (d : List UInt8) : List UInt8 := if full = false ∧ d.contains 46 = true then Lib.trimSuffix (Lib.trimRightB d 48) [46] else d
noncomputable def genT (r n : Nat) (full : Bool) : List UInt8 :=
  if (sciX r n).2 < -4 ∨ ((n : Int) + 1 ≤ (sciX r n).2) then trimG full (ptT (sciX r n).1 (decide (0 < n) || full)) ++ expT (sciX r n).2
  else trimG full (fixP r ((n : Int) - (sciX r n).2).toNat full)
/-- An exponent in a text, or nothing. -/
def ExOk (ex : List UInt8) (xe : Int) : Prop := (ex = [] ∧ xe = 0) ∨ ∃ c x neg DD, ex = c :: x :: DD ∧ (c = 101 ∨ c = 69) ∧ ((x = 45 ∧ neg = true) ∨ (x = 43 ∧ neg = false)) ∧ Dec DD ∧ DD ≠ [] ∧ pv DD < 100000 ∧ xe = if neg = true then -(pv DD : Int) else (pv DD : Int)
theorem exOk_exp {ex tail : List UInt8} {xe : Int} (h : ExOk ex xe) (ht : Calm tail) : expL (ex ++ tail) = (xe, tail) ∧ ∀ c t, ex ++ tail = c :: t → isD c = false ∧ c ≠ 46 := by
  rcases h with ⟨rfl, rfl⟩ | ⟨c, x, neg, DD, rfl, hc, hx, hd, hne, hk, rfl⟩
  · exact ⟨expL_calm ht, fun c t e => ⟨(ht c t e).1, (ht c t e).2.1⟩⟩
  · refine ⟨expL_text hc hx hd hne hk (fun c t e => (ht c t e).1), fun d t e => ?_⟩
    have : c = d := (List.cons.inj e).1
    subst this
    rcases hc with rfl | rfl <;> decide
/-- The text writes the float r. -/
def Reads (D : List UInt8) (r : Nat) : Prop := ∃ D1 D2 pt ex xe, D = D1 ++ (pt ++ ex) ∧ Dec D1 ∧ D1 ≠ [] ∧ Dec D2 ∧ PtOk pt D2 ∧ ExOk ex xe ∧ Near (2 * (pv (D1 ++ D2) * 10 ^ (xe - (D2.length : Int)).toNat) * S1074) (10 ^ (-(xe - (D2.length : Int))).toNat) r
theorem expT_ok {P : Int} (h0 : -400 ≤ P) (h1 : P ≤ 400) : ExOk (expT P) P := by
  right
  have hd : Dec ((if P.natAbs < 10 then [48] else []) ++ decs P.natAbs) := by
    refine dec_app ?_ (dec_decs _)
    split
    · exact dec_noughts 1
    · exact dec_nil
  have hv : pv ((if P.natAbs < 10 then [48] else []) ++ decs P.natAbs) = P.natAbs := by
    split
    · exact (pv_noughts 1 _).trans (pv_decs _)
    · exact pv_decs _
  have hne : (if P.natAbs < 10 then [48] else []) ++ decs P.natAbs ≠ [] := by
    have := decs_pos_len P.natAbs
    intro e
    have h2 := congrArg List.length e
    rw [List.length_append] at h2
    simp at h2
    rw [h2.2] at this
    simp at this
  by_cases hP : P < 0
  · refine ⟨101, 45, true, _, ?_, Or.inl rfl, Or.inl ⟨rfl, rfl⟩, hd, hne, by rw [hv]; omega, by rw [hv, if_pos rfl]; omega⟩
    unfold expT
    rw [if_pos hP]
    rfl
  · refine ⟨101, 43, false, _, ?_, Or.inl rfl, Or.inr ⟨rfl, rfl⟩, hd, hne, by rw [hv]; omega, by rw [hv, if_neg (by decide)]; omega⟩
    unfold expT
    rw [if_neg hP]
    rfl
theorem sciX_near (w : World) {r p : Nat} (hr : r < 9218868437227405312) (hp : p ≤ 200) (hp2 : 16 ≤ p) :
    Near (2 * (pv (sciX r p).1 * 10 ^ ((sciX r p).2 - (p : Int)).toNat) * S1074) (10 ^ (-((sciX r p).2 - (p : Int))).toNat) r := by
  rcases Nat.eq_zero_or_pos r with rfl | h0
  · rw [sciX_zero]
    simp only
    rw [pv_zeros, Nat.zero_mul, Nat.mul_zero, Nat.zero_mul]
    exact near_zero (Nat.pow_pos (by omega))
  · obtain ⟨P, M, ok⟩ := sci_has w h0 hr hp
    rw [sciX_of ok]
    simp only
    rw [pv_decs]
    exact sci_close h0 hr hp2 ok
theorem reads_sci (w : World) {r p : Nat} (hr : r < 9218868437227405312) (hp : p ≤ 200) (hp2 : 16 ≤ p) (q : Bool) (hq : q = true) : Reads (ptT (sciX r p).1 q ++ expT (sciX r p).2) r := by
  obtain ⟨hl, hd, b0, b1⟩ := sciX_facts w hr hp
  have hN := sciX_near w hr hp hp2
  subst hq
  refine ⟨(sciX r p).1.take 1, (sciX r p).1.drop 1, 46 :: (sciX r p).1.drop 1, expT (sciX r p).2, (sciX r p).2, ?_, dec_take hd 1, ?_, dec_drop hd 1, Or.inr rfl, expT_ok b0 b1, ?_⟩
  · unfold ptT
    rw [if_pos rfl, List.append_assoc]
  · intro e
    have := congrArg List.length e
    rw [List.length_take, hl] at this
    simp at this
  · rw [List.take_append_drop, List.length_drop, hl, Nat.add_sub_cancel]
    exact hN
/-- Noughts at the end of the digits behind a point make no difference. -/
theorem reads_trim {D1 D2 ex : List UInt8} {xe : Int} {r : Nat} (h1 : Dec D1) (hne : D1 ≠ []) (h2 : Dec D2) (hx : ExOk ex xe)
    (hN : Near (2 * (pv (D1 ++ D2) * 10 ^ (xe - (D2.length : Int)).toNat) * S1074) (10 ^ (-(xe - (D2.length : Int))).toNat) r) :
    Reads (Lib.trimSuffix (Lib.trimRightB (D1 ++ 46 :: D2) 48) [46] ++ ex) r := by
  obtain ⟨pt, T, k, e, hp, hk, hT⟩ := point_trim (D1 := D1) h2
  refine ⟨D1, T, pt, ex, xe, by rw [e, List.append_assoc], h1, hne, hT, hp, hx, ?_⟩
  rw [hk, List.length_append, List.length_replicate, ← List.append_assoc, pv_append, pv_zeros, List.length_replicate, Nat.add_zero] at hN
  refine near_same (Nat.pow_pos (by omega)) (Nat.pow_pos (by omega)) ?_ hN
  obtain ⟨j, hj⟩ : ∃ j : Int, xe - (T.length : Int) = j := ⟨_, rfl⟩
  obtain ⟨y, hy⟩ : ∃ y : Int, xe - ((T.length + k : Nat) : Int) = y := ⟨_, rfl⟩
  rw [hj, hy]
  have e2 : 10 ^ j.toNat * 10 ^ (-y).toNat = 10 ^ k * (10 ^ y.toNat * 10 ^ (-j).toNat) := by
    rw [← Nat.pow_add, ← Nat.pow_add, ← Nat.pow_add]
    congr 1
    omega
  generalize S1074 = z
  generalize pv (D1 ++ T) = P
  calc 2 * (P * 10 ^ k * 10 ^ y.toNat) * z * 10 ^ (-j).toNat = 2 * P * z * (10 ^ k * (10 ^ y.toNat * 10 ^ (-j).toNat)) := by ac_rfl
    _ = 2 * P * z * (10 ^ j.toNat * 10 ^ (-y).toNat) := by rw [e2]
    _ = 2 * (P * 10 ^ j.toNat) * z * 10 ^ (-y).toNat := by ac_rfl
theorem has_point (A B : List UInt8) : (A ++ 46 :: B).contains 46 = true := by
  rw [List.contains_eq_mem, decide_eq_true_iff]
  simp
theorem dec_point {D : List UInt8} (h : Dec D) : D.contains 46 = false := by
  rw [List.contains_eq_mem, decide_eq_false_iff_not]
  intro hm
  exact absurd (h 46 hm).1 (by decide)
theorem reads_point {D1 D2 ex : List UInt8} {xe : Int} {r : Nat} (full : Bool) (h1 : Dec D1) (hne : D1 ≠ []) (h2 : Dec D2) (hx : ExOk ex xe)
    (hN : Near (2 * (pv (D1 ++ D2) * 10 ^ (xe - (D2.length : Int)).toNat) * S1074) (10 ^ (-(xe - (D2.length : Int))).toNat) r) :
    Reads (trimG full (D1 ++ 46 :: D2) ++ ex) r := by
  cases full with
  | true =>
    unfold trimG
    rw [if_neg (fun h => by cases h.1)]
    exact ⟨D1, D2, 46 :: D2, ex, xe, by rw [List.append_assoc], h1, hne, h2, Or.inr rfl, hx, hN⟩
  | false =>
    unfold trimG
    rw [if_pos ⟨rfl, has_point D1 D2⟩]
    exact reads_trim h1 hne h2 hx hN
theorem padT_long (d : List UInt8) (p : Nat) : p + 1 ≤ (padT d p).length := by
  unfold padT
  rw [List.length_append, List.length_replicate]
  omega
theorem padT_dec {d : List UInt8} (h : Dec d) (p : Nat) : Dec (padT d p) := dec_app (dec_noughts _) h
theorem padT_pv (d : List UInt8) (p : Nat) : pv (padT d p) = pv d := pv_noughts _ _
theorem sciM_up (N D : Nat) {k : Int} (h : 0 ≤ k) : sciM N D k = rnd (N * 10 ^ k.toNat) D := by
  unfold sciM
  rw [show (-k).toNat = 0 by omega, Nat.pow_zero, Nat.mul_one]
theorem rnd_zero {D : Nat} (hD : 0 < D) : rnd 0 D = 0 := by
  have h1 := rnd_le 0 D
  have h2 := (rnd_near 0 D hD).2
  rcases Nat.eq_zero_or_pos (rnd 0 D) with h | h
  · exact h
  · obtain ⟨h3, -⟩ := h2 h
    have : 0 < (2 * rnd 0 D - 1) * D := Nat.mul_pos (by omega) hD
    omega
theorem fix_near (w : World) {r p : Nat} (hr : r < 9218868437227405312) (hp : p ≤ 200) (hp2 : 16 ≤ p) (hP : (sciX r p).2 ≤ p) :
    Near (2 * (rnd (amN r * 10 ^ ((p : Int) - (sciX r p).2).toNat) (amD r) * 10 ^ ((sciX r p).2 - (p : Int)).toNat) * S1074) (10 ^ (-((sciX r p).2 - (p : Int))).toNat) r := by
  rcases Nat.eq_zero_or_pos r with rfl | h0
  · rw [amN_zero, Nat.zero_mul]
    rw [rnd_zero (amD_pos 0), Nat.zero_mul, Nat.mul_zero, Nat.zero_mul]
    exact near_zero (Nat.pow_pos (by omega))
  · obtain ⟨P, M, ok⟩ := sci_has w h0 hr hp
    rw [sciX_of ok] at hP ⊢
    simp only at hP ⊢
    rw [← sciM_up _ _ (by omega), ← ok.val]
    exact sci_close h0 hr hp2 ok
theorem reads_fix (w : World) {r p : Nat} (hr : r < 9218868437227405312) (hp : p ≤ 200) (hp2 : 16 ≤ p) (hP : (sciX r p).2 ≤ p) (full : Bool) :
    Reads (trimG full (fixP r ((p : Int) - (sciX r p).2).toNat full)) r := by
  have hN := fix_near w hr hp hp2 hP
  obtain ⟨P, hPe⟩ : ∃ P, (sciX r p).2 = P := ⟨_, rfl⟩
  rw [hPe] at hN hP ⊢
  obtain ⟨q, hq⟩ : ∃ q, ((p : Int) - P).toNat = q := ⟨_, rfl⟩
  have hqz : P - (p : Int) = -(q : Int) := by omega
  rw [hq, hqz] at hN
  rw [hq]
  obtain ⟨M, hM⟩ : ∃ M, rnd (amN r * 10 ^ q) (amD r) = M := ⟨_, rfl⟩
  unfold fixP
  rw [hM] at hN ⊢
  have hd := dec_decs M
  have hne : decs M ≠ [] := fun e => by
    have := decs_pos_len M
    rw [e] at this
    simp at this
  have e0 : (0 : Int) - (([] : List UInt8).length : Int) = -((0 : Nat) : Int) := by simp
  rcases Nat.eq_zero_or_pos q with rfl | hq0
  · unfold fixT
    rw [if_pos rfl]
    cases full with
    | true =>
      rw [if_pos ⟨rfl, rfl⟩]
      have h := reads_point (D1 := decs M) (D2 := []) (ex := []) (xe := 0) (r := r) true hd hne dec_nil (Or.inl ⟨rfl, rfl⟩) (by rw [List.append_nil, pv_decs, e0]; exact hN)
      rw [List.append_nil] at h
      exact h
    | false =>
      rw [if_neg (fun h => by cases h.2), List.append_nil]
      unfold trimG
      rw [if_neg (fun h => by rw [dec_point hd] at h; cases h.2)]
      exact ⟨decs M, [], [], [], 0, by simp, hd, hne, dec_nil, Or.inl ⟨rfl, rfl⟩, Or.inl ⟨rfl, rfl⟩, by rw [List.append_nil, pv_decs, e0]; exact hN⟩
  · rw [if_neg (fun h => by omega), List.append_nil]
    unfold fixT
    rw [if_neg (by omega)]
    have hl := padT_long (decs M) q
    have hpd := padT_dec hd q
    have h := reads_point (D1 := (padT (decs M) q).take ((padT (decs M) q).length - q)) (D2 := (padT (decs M) q).drop ((padT (decs M) q).length - q)) (ex := []) (xe := 0) (r := r) full (dec_take hpd _) (fun e => by
      have := congrArg List.length e
      rw [List.length_take] at this
      simp at this
      omega) (dec_drop hpd _) (Or.inl ⟨rfl, rfl⟩) (by
      rw [List.take_append_drop, padT_pv, pv_decs, List.length_drop, show (padT (decs M) q).length - ((padT (decs M) q).length - q) = q by omega, show (0 : Int) - (q : Int) = -(q : Int) by omega]
      exact hN)
    rw [List.append_nil] at h
    exact h
theorem reads_gen (w : World) {r p : Nat} (hr : r < 9218868437227405312) (hp : p ≤ 200) (hp2 : 16 ≤ p) (full : Bool) : Reads (genT r p full) r := by
  obtain ⟨hl, hd, b0, b1⟩ := sciX_facts w hr hp
  unfold genT
  split
  · have hN := sciX_near w hr hp hp2
    unfold ptT
    rw [decide_eq_true (by omega), Bool.true_or, if_pos rfl]
    refine reads_point full (dec_take hd 1) ?_ (dec_drop hd 1) (expT_ok b0 b1) ?_
    · intro e
      have := congrArg List.length e
      rw [List.length_take, hl] at this
      simp at this
    · rw [List.take_append_drop, List.length_drop, hl, Nat.add_sub_cancel]
      exact hN
  · rename_i h
    exact reads_fix w hr hp hp2 (by omega) full
theorem upper_digit {c : UInt8} (h : 48 ≤ c.toNat ∧ c.toNat ≤ 57) : Lib.upperB c = c := by
  have key : ∀ n : Fin 256, 48 ≤ n.val → n.val ≤ 57 → Lib.upperB (UInt8.ofNat n.val) = UInt8.ofNat n.val := by decide +kernel
  have h2 := key ⟨c.toNat, c.toNat_lt⟩ h.1 h.2
  simpa using h2
theorem upper_dec {D : List UInt8} (h : Dec D) : Lib.toUpperA D = D := by
  unfold Lib.toUpperA
  conv => rhs; rw [← List.map_id D]
  exact List.map_congr_left fun c hc => upper_digit (h c hc)
theorem Reads.upper {D : List UInt8} {r : Nat} (h : Reads D r) : Reads (Lib.toUpperA D) r := by
  obtain ⟨D1, D2, pt, ex, xe, rfl, h1, hne, h2, hp, hx, hN⟩ := h
  refine ⟨D1, D2, pt, Lib.toUpperA ex, xe, ?_, h1, hne, h2, hp, ?_, hN⟩
  · have e1 : Lib.toUpperA pt = pt := by
      rcases hp with ⟨rfl, rfl⟩ | rfl
      · rfl
      · show Lib.upperB 46 :: Lib.toUpperA D2 = _
        rw [upper_dec h2]
        rfl
    have e2 := upper_dec h1
    unfold Lib.toUpperA at e1 e2 ⊢
    rw [List.map_append, List.map_append, e1, e2]
  · rcases hx with ⟨rfl, rfl⟩ | ⟨c, x, neg, DD, rfl, hc, hs, hd, hn, hk, rfl⟩
    · exact Or.inl ⟨rfl, rfl⟩
    · refine Or.inr ⟨69, x, neg, DD, ?_, Or.inr rfl, hs, hd, hn, hk, rfl⟩
      show Lib.upperB c :: Lib.upperB x :: Lib.toUpperA DD = _
      rw [upper_dec hd]
      have e1 : Lib.upperB c = 69 := by rcases hc with rfl | rfl <;> decide
      have e2 : Lib.upperB x = x := by rcases hs with ⟨rfl, _⟩ | ⟨rfl, _⟩ <;> decide
      rw [e1, e2]
/-- The pieces as one, as wide as is asked for. -/
def laidL (sg base D : List UInt8) (wd : Int) (minus noughts : Bool) : List UInt8 :=
  if noughts = true ∧ minus = false then sg ++ (base ++ (List.replicate (wd - ((sg ++ base ++ D).length : Int)).toNat 48 ++ D))
  else fillL (sg ++ base ++ D) (wd - ((sg ++ base ++ D).length : Int)) minus
theorem calm_spaces (K : Nat) : Calm (List.replicate K 32) := by
  cases K with
  | zero => exact calm_nil
  | succ K =>
    intro c t e
    rw [List.replicate_succ] at e
    rw [← (List.cons.inj e).1]
    decide
theorem blanks_gone (K : Nat) : noBlanks (List.replicate K 32) = [] := by
  have := noBlanks_rep (c := 32) (by decide) K []
  rwa [List.append_nil] at this
theorem reads_sig {K j : Nat} {sg D : List UInt8} {b : Bool} {r : Nat} (hs : SgOk sg b) (h : Reads D r) :
    ∃ D1 D2 xe zz, sigL (List.replicate K 32 ++ (sg ++ (D ++ List.replicate j 32))) = (b, D1, D2, xe, zz) ∧ 0 < zz ∧ Near (2 * (pv (D1 ++ D2) * 10 ^ (xe - (D2.length : Int)).toNat) * S1074) (10 ^ (-(xe - (D2.length : Int))).toNat) r ∧ looksL (List.replicate K 32 ++ (sg ++ (D ++ List.replicate j 32))) = true := by
  obtain ⟨D1, D2, pt, ex, xe, rfl, h1, hne, h2, hp, hx, hN⟩ := h
  obtain ⟨e1, e2⟩ := exOk_exp hx (calm_spaces j)
  have e : D1 ++ (pt ++ ex) ++ List.replicate j 32 = D1 ++ (pt ++ (ex ++ List.replicate j 32)) := by rw [List.append_assoc, List.append_assoc]
  rw [e]
  have hS := sigL_text (K := K) hs h1 hne h2 hp e2
  have hL := looks_text (K := K) hs h1 hne h2 hp e2 (by rw [e1])
  rw [blanks_gone] at hL
  rw [e1] at hS
  refine ⟨D1, D2, xe, _, hS, ?_, hN, hL⟩
  have := List.length_pos_iff.2 hne
  rw [List.length_append, List.length_replicate]
  omega
/-- Noughts ahead make no difference. -/
theorem Reads.noughts {D : List UInt8} {r : Nat} (k : Nat) (h : Reads D r) : Reads (List.replicate k 48 ++ D) r := by
  obtain ⟨D1, D2, pt, ex, xe, rfl, h1, hne, h2, hp, hx, hN⟩ := h
  refine ⟨List.replicate k 48 ++ D1, D2, pt, ex, xe, by rw [List.append_assoc], dec_app (dec_noughts k) h1, fun e => hne (List.append_eq_nil_iff.1 e).2, h2, hp, hx, ?_⟩
  rw [List.append_assoc, pv_noughts]
  exact hN
theorem reads_laid {sg D : List UInt8} {b m z : Bool} {wd : Int} {r : Nat} (hs : SgOk sg b ∨ (sg = [32] ∧ b = false)) (h : Reads D r) :
    ∃ D1 D2 xe zz, sigL (laidL sg [] D wd m z) = (b, D1, D2, xe, zz) ∧ 0 < zz ∧ Near (2 * (pv (D1 ++ D2) * 10 ^ (xe - (D2.length : Int)).toNat) * S1074) (10 ^ (-(xe - (D2.length : Int))).toNat) r ∧ looksL (laidL sg [] D wd m z) = true := by
  have key : ∃ K j sg' D', laidL sg [] D wd m z = List.replicate K 32 ++ (sg' ++ (D' ++ List.replicate j 32)) ∧ SgOk sg' b ∧ Reads D' r := by
    unfold laidL
    rw [List.append_nil]
    obtain ⟨q, hq⟩ : ∃ q, (wd - ((sg ++ D).length : Int)).toNat = q := ⟨_, rfl⟩
    unfold fillL
    rw [hq, List.nil_append]
    clear hq
    split
    · rcases hs with hs | ⟨rfl, rfl⟩
      · exact ⟨0, 0, sg, List.replicate q 48 ++ D, by simp only [List.replicate_zero, List.nil_append, List.append_nil], hs, h.noughts _⟩
      · exact ⟨1, 0, [], List.replicate q 48 ++ D, by simp only [List.replicate_zero, List.append_nil]; rfl, Or.inl ⟨rfl, rfl⟩, h.noughts _⟩
    · split
      · rcases hs with hs | ⟨rfl, rfl⟩
        · exact ⟨0, q, sg, D, by rw [List.replicate_zero, List.nil_append, List.append_assoc], hs, h⟩
        · exact ⟨1, q, [], D, by rw [List.append_assoc]; rfl, Or.inl ⟨rfl, rfl⟩, h⟩
      · rcases hs with hs | ⟨rfl, rfl⟩
        · exact ⟨q, 0, sg, D, by rw [List.replicate_zero, List.append_nil], hs, h⟩
        · refine ⟨q + 1, 0, [], D, ?_, Or.inl ⟨rfl, rfl⟩, h⟩
          rw [List.replicate_succ', List.replicate_zero, List.append_nil, List.nil_append, List.append_assoc]
  obtain ⟨K, j, sg', D', e, h1, h2⟩ := key
  rw [e]
  exact reads_sig h1 h2
end Go.Proofs.YtohickpkkldmdaaGreatDoor
