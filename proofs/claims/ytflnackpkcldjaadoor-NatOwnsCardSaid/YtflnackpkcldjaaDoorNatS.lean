/- Contracts of layer 2: Parse. -/
import Derived.Test.YtflnackpkcldjaaDoorNatR
namespace Go.Proofs.YtflnackpkcldjaaDoor
open Go.RowKit Go.Lib

/-- What Parse answers. -/
noncomputable def parseRes (s : ByteArray) : List Nat × Int := if isDec s = true then natRes (pv s.data.toList) else ([], 30)
theorem pow10_le {i : Nat} (h : i ≤ 8) : 10 ^ i ≤ 100000000 := (Nat.pow_le_pow_right (by omega) h : 10 ^ i ≤ 10 ^ 8)
theorem pow10_le9 {i : Nat} (h : i ≤ 9) : 10 ^ i ≤ 1000000000 := (Nat.pow_le_pow_right (by omega) h : 10 ^ i ≤ 10 ^ 9)
theorem natRes_long {n : Nat} (h : ¬ (dig B32 n).length ≤ 256) : natRes n = ([], 3) := by rw [natRes, if_neg h]
theorem natRes_ok {n : Nat} (h : (dig B32 n).length ≤ 256) : natRes n = (dig B32 n, 0) := by rw [natRes, if_pos h]
theorem dig_grows {n m : Nat} (h : n ≤ m) (hn : ¬ (dig B32 n).length ≤ 256) : ¬ (dig B32 m).length ≤ 256 := by
  rw [dig_len_le (by decide)] at hn ⊢
  omega
theorem pv_take_le {l : List UInt8} (k : Nat) : pv (l.take k) ≤ pv l := by
  have h := pv_append (l.take k) (l.drop k)
  rw [List.take_append_drop] at h
  have : pv (l.take k) * 1 ≤ pv (l.take k) * 10 ^ (l.drop k).length := Nat.mul_le_mul_left _ (Nat.pow_pos (by omega))
  omega

set_option maxRecDepth 100000 in
set_option maxHeartbeats 2000000 in
theorem parse_any (s : ByteArray) (w : World) (hs : s.size ≤ 4194304) :
    Calls Tryd.prog 24 #[.string s] w (RowErr w.heap.size w (parseRes s)) := by
  have cD := isDigits_any s w hs
  by_cases hd : isDec s = true
  case neg =>
    have hf : isDec s = false := by simpa using hd
    have HR := Lib.hid (show parseRes s = ([], 30) by rw [parseRes, if_neg hd])
    rw [hf] at cD
    have CD := Lib.hid cD
    clear cD hd hf
    go_enter Tryd.func24, Tryd.ntmps24
    go_wp2_with fail
    refine CD.out.mono ?_
    rintro e w' ⟨rfl, rfl⟩
    go_wp2
    go_ret2
    exact ⟨_, by rw [HR.out]; rfl, by rw [HR.out]; exact Own.nil _ _ _, Below.refl _ _⟩
  have HR := Lib.hid (show parseRes s = natRes (pv s.data.toList) by rw [parseRes, if_pos hd])
  have hdec := (isDec_iff.1 hd).2
  rw [hd] at cD
  have CD := Lib.hid cD
  clear cD hd
  go_enter Tryd.func24, Tryd.ntmps24
  go_wp2_with fail
  refine CD.out.mono ?_
  rintro e w' ⟨rfl, rfl⟩
  clear CD
  go_wp2
  go_loopw [4, 5] (fun v q wr => ∃ (r : ByteArray) (k : Nat), k ≤ s.size ∧ q = .string r ∧ r.data.toList = s.data.toList.drop k ∧ Own .u32 wr w.heap.size 47 v (dig B32 (pv (s.data.toList.take k))) ∧ (dig B32 (pv (s.data.toList.take k))).length ≤ 256 ∧ Below w.heap.size w wr) (fun _ q _ => match q with | .string r => r.size | _ => 0)
  case atStart => exact ⟨s, 0, Nat.zero_le _, rfl, rfl, Own.nil _ _ _, Nat.zero_le _, Below.refl _ _⟩
  case round =>
    obtain ⟨r, k, hk, rfl, hr, hO, hlen, hB⟩ := hrel
    have hrl : r.size = s.size - k := by rw [← ba_len, hr, List.length_drop, ba_len]
    have HRD := Lib.hid hr
    by_cases hr0 : r.size = 0
    · have he : r.toList = [] := by rw [Lib.toList_data]; exact ba_nil hr0
      have he2 : r.toList.isEmpty = true := by rw [he]; rfl
      have hke : s.data.toList.take k = s.data.toList := by rw [List.take_of_length_le]; rw [ba_len]; omega
      rw [hke] at hO hlen
      have HN := Lib.hid (natRes_ok hlen)
      have HO := Lib.hid hO
      obtain ⟨A, cap, rfl, _⟩ := hO.slice
      clear hO hlen hke hr hr0 hrl
      go_wp2
      go_ret2
      exact ⟨_, by rw [HR.out, HN.out]; rfl, by rw [HR.out, HN.out]; exact HO.out, hB⟩
    · have he2 : r.toList.isEmpty = false := by
        rw [Lib.toList_data]
        cases h : r.data.toList with
        | nil => exact absurd (by rw [← ba_len, h]; rfl) hr0
        | cons _ _ => rfl
      have he3 : ¬ r.toList = [] := by
        intro e; rw [e] at he2; cases he2
      obtain ⟨m, hm⟩ : ∃ m, min 9 r.size = m := ⟨_, rfl⟩
      have hm1 : m ≤ 9 := by omega
      have hm2 : m ≤ r.size := by omega
      have hm0 : 0 < m := by omega
      have hmi : min (9 : Int) (r.size : Int) = (m : Int) := by omega
      have hmi2 : (if (9 : Int) ≤ (r.size : Int) then (9 : Int) else (r.size : Int)) = (m : Int) := by split <;> omega
      obtain ⟨p, hp⟩ : ∃ p, r.extract 0 m = p := ⟨_, rfl⟩
      have hps : p.size = m := by rw [← hp, ByteArray.size_extract]; omega
      have hpd : p.data.toList = (s.data.toList.drop k).take m := by rw [← hp, Lib.extract_data, List.drop_zero, hr, Nat.sub_zero]
      have HM := Lib.hid hm
      have HPD := Lib.hid hpd
      have HPS := Lib.hid hps
      have HRL := Lib.hid hrl
      have hkr : k + r.size = s.size := by omega
      have HKR := Lib.hid hkr
      clear hm hpd hr hrl hkr
      go_wp2
      have hpdec : Dec p.data.toList := by rw [HPD.out]; exact dec_take (dec_drop hdec _) _
      have HPDEC := Lib.hid hpdec
      clear hpdec
      obtain ⟨wo, rfl⟩ : ∃ wo : World, wo = wr := ⟨wr, rfl⟩
      go_loop [7, 8, 23] (fun a b i => ∃ i0 : Nat, i0 ≤ m ∧ i = .int .i64 i0 ∧ a = .int .u32 (10 ^ i0 : Nat) ∧ b = .int .u32 (pv (p.data.toList.take i0))) (fun _ _ i => m - (RowKit.intOf i).toNat)
      case atStart => exact ⟨0, Nat.zero_le _, rfl, rfl, rfl⟩
      case round =>
        obtain ⟨i, hi, rfl, rfl, rfl⟩ := hrel
        by_cases hlt : i < m
        · have hps := HPS.out
          have hc := dec_at HPDEC.out i (by omega)
          have hsn := ba_take_snoc p i (by omega)
          have hpv : pv (p.data.toList.take (i + 1)) = pv (p.data.toList.take i) * 10 + (p[i].toNat - 48) := by rw [hsn, pv_snoc]
          have hvl := pv_lt (dec_take HPDEC.out i)
          rw [List.length_take, Nat.min_eq_left (by rw [ba_len]; omega)] at hvl
          have hP8 := pow10_le (i := i) (by omega)
          have hPs : 10 ^ (i + 1) = 10 ^ i * 10 := Nat.pow_succ ..
          have hip : i < p.size := by omega
          obtain ⟨P, hP⟩ : ∃ P, 10 ^ i = P := ⟨_, rfl⟩
          obtain ⟨V, hV⟩ : ∃ V, pv (p.data.toList.take i) = V := ⟨_, rfl⟩
          rw [hP] at hvl hP8 hPs
          rw [hV] at hvl hpv
          rw [hP, hV]
          have HPV := Lib.hid hpv
          have HPS2 := Lib.hid hPs
          obtain ⟨c1, c2⟩ := hc
          clear hps hsn hpv hPs hP hV
          go_wp2
          go_round
          case rel => exact ⟨i + 1, hlt, by go_num, by rw [HPS2.out]; go_num, by rw [HPV.out]; exact vint (by omega)⟩
          case measure => simp [RowKit.intOf]; omega
        · obtain rfl : i = m := by omega
          have hpe : pv (p.data.toList.take i) = pv p.data.toList := by rw [List.take_of_length_le]; rw [ba_len, HPS.out]; exact Nat.le_refl _
          have hvl := pv_lt HPDEC.out
          rw [ba_len, HPS.out] at hvl
          have hP9 := pow10_le9 (i := i) hm1
          have hP0 : 0 < 10 ^ i := Nat.pow_pos (by omega)
          have hcat : pv (s.data.toList.take (k + i)) = pv (s.data.toList.take k) * 10 ^ i + pv p.data.toList := by
            rw [List.take_add, ← HPD.out, pv_append, ba_len, HPS.out]
          obtain ⟨A, cap, rfl, hcap⟩ := hO.slice
          have cM := mulAdd_any A cap (10 ^ i) (pv p.data.toList) w.heap.size (dig B32 (pv (s.data.toList.take k))) wo (dig_norm (by decide) _) (by omega) hP0 (by omega) (by omega) hB.size hO
          rw [dig_vl (by decide), ← hcat] at cM
          rw [hpe]
          obtain ⟨P, hP⟩ : ∃ P, 10 ^ i = P := ⟨_, rfl⟩
          obtain ⟨V, hV⟩ : ∃ V, pv p.data.toList = V := ⟨_, rfl⟩
          rw [hP, hV] at cM
          rw [hP, hV]
          have CM := Lib.hid cM
          have hle := pv_take_le (l := s.data.toList) (k + i)
          have HLE := Lib.hid hle
          have hri : i ≤ r.size := hm2
          have hrd2 : (r.extract i r.size).data.toList = s.data.toList.drop (k + i) := by
            rw [Lib.extract_data, HRD.out, List.drop_drop, List.take_of_length_le]
            rw [List.length_drop, ba_len]; have := HKR.out; omega
          have HRD2 := Lib.hid hrd2
          clear cM hpe hvl hP9 hP0 hcat hP hV hle hrd2 hO
          go_wp2_with fail
          refine CM.out.mono ?_
          rintro e w2 ⟨v2, rfl, hO2, hB2⟩
          obtain ⟨A2, cap2, rfl, hcap2⟩ := hO2.slice
          have hBz := hB.trans hB2
          obtain ⟨nl, hnl⟩ : ∃ nl, (dig B32 (pv (s.data.toList.take (k + i)))).length = nl := ⟨_, rfl⟩
          rw [hnl] at hO2 hcap2
          rw [hnl]
          have HO2 := Lib.hid hO2
          have HNL := Lib.hid hnl
          clear hO2 hB2 CM hB hnl
          by_cases hbig : 256 < nl
          · have HBIG := Lib.hid (natRes_long (dig_grows HLE.out (by rw [HNL.out]; omega)))
            go_wp2
            go_ret2
            exact ⟨_, by rw [HR.out, HBIG.out]; rfl, by rw [HR.out, HBIG.out]; exact Own.nil _ _ _, hBz⟩
          · go_wp2
            go_roundw
            case rel => exact ⟨r.extract i r.size, k + i, by have := HKR.out; omega, rfl, HRD2.out, by have h := HO2.out; rw [← HNL.out] at h; rw [← HNL.out]; exact h, by rw [HNL.out]; omega, hBz⟩
            case measure =>
              show (r.extract i r.size).size < r.size
              rw [ByteArray.size_extract]; omega
end Go.Proofs.YtflnackpkcldjaaDoor
