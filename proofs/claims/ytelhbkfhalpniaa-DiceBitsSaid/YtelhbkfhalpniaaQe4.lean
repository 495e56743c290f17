/- Several texts in one (The definition of layer 4: value, of no more than 1000 digits; The definition of layer 4: value, of one digit to 1000 behind the noughts; The definition of layer 4: value, of more than 1000 digits behind the noughts; The definition of layer 4: value at any digits; plain: a numeral by its places; The definition of layer 4 and of layer 14: what stands ahead of the point, a word; The definition of layer 14: bits, digit by digit). -/
import Derived.Deep.RegionHeld3
import Derived.Deep.Upon
import Derived.Test.YtelhbkfhalpniaaQe1
import Derived.Test.YtelhbkfhalpniaaQe2
import Derived.Test.YtelhbkfhalpniaaQe3
namespace Go.Proofs.Ytelhbkfhalpniaa
open Go.RowKit Go.Lib

def cod (l : List UInt8) : List Nat := l.map UInt8.toNat
theorem cod_len (l : List UInt8) : (cod l).length = l.length := List.length_map _
theorem cod_get {l : List UInt8} {j : Nat} (h : j < l.length) : (cod l)[j]'(by rw [cod_len]; exact h) = (l[j]).toNat := by simp [cod]
theorem rd_cell {w : World} {g o : Nat} {l : List UInt8} (h : Rd .u8 w (some ⟨g, o, none⟩) (cod l)) {j : Nat} (hj : j < l.length) : w.cell? ⟨g, o + j, none⟩ = some (.int .u8 (((l[j]).toNat : Nat) : Int)) := by
  obtain ⟨g', o', e, hc⟩ := h j (by rw [cod_len]; exact hj)
  cases e
  rw [hc, cod_get hj]
theorem rd_drop {w : World} {g o k : Nat} {l : List UInt8} (h : Rd .u8 w (some ⟨g, o, none⟩) (cod l)) : Rd .u8 w (some ⟨g, o + k, none⟩) (cod (l.drop k)) := by
  refine Rd.of fun j hj => ?_
  rw [cod_len, List.length_drop] at hj
  have hc := rd_cell h (j := k + j) (by omega)
  rw [Nat.add_assoc, hc, cod_get (by rw [List.length_drop]; exact hj), List.getElem_drop]
theorem conv_rd (w : World) (g o cap : Nat) (l : List UInt8) (h : Rd .u8 w (some ⟨g, o, none⟩) (cod l)) : (convert 61 9 (.slice (some ⟨g, o, none⟩) l.length cap)).run Try.prog w = .ok (.string ⟨l.toArray⟩) w := by
  refine run_convert_bytes_back (P := Try.prog) w 61 9 5 ⟨g, o, none⟩ cap l Try.underlying61 Try.underlying5 Try.underlying9 (fun j hj => ?_)
  rw [Addr.add_lit, rd_cell h hj]
/-- How many noughts stand ahead. -/
def nz (l : List UInt8) : Nat := l.length - (l.dropWhile (· == 48)).length
theorem nz_take (l : List UInt8) : nz l = (l.takeWhile (· == 48)).length := by
  have h : l.takeWhile (· == 48) ++ l.dropWhile (· == 48) = l := List.takeWhile_append_dropWhile
  have hl := congrArg List.length h
  rw [List.length_append] at hl
  unfold nz
  omega
theorem nz_drop (l : List UInt8) : l.drop (nz l) = l.dropWhile (· == 48) := by
  have h : l.takeWhile (· == 48) ++ l.dropWhile (· == 48) = l := List.takeWhile_append_dropWhile
  have e := List.drop_left (l₁ := l.takeWhile (· == 48)) (l₂ := l.dropWhile (· == 48))
  rw [h] at e
  rw [nz_take]
  exact e
theorem nz_le (l : List UInt8) : nz l ≤ l.length := Nat.sub_le _ _
theorem nz_at {l : List UInt8} {j : Nat} (hj : j < nz l) : l[j]'(Nat.lt_of_lt_of_le hj (nz_le l)) = 48 := by
  have h : l.takeWhile (· == 48) ++ l.dropWhile (· == 48) = l := List.takeWhile_append_dropWhile
  have hj2 : j < (l.takeWhile (· == 48)).length := by rw [← nz_take]; exact hj
  have e := List.getElem?_append_left (l₂ := l.dropWhile (· == 48)) hj2
  rw [h, List.getElem?_eq_getElem (Nat.lt_of_lt_of_le hj (nz_le l)), List.getElem?_eq_getElem hj2] at e
  rw [Option.some.inj e]
  have := List.all_eq_true.1 (List.all_takeWhile (p := (· == (48 : UInt8))) (l := l)) _ (List.getElem_mem hj2)
  exact eq_of_beq this
def RVal (w : World) (X D : Nat) (e : Ending) (w' : World) : Prop := ∃ r, e = .returned (.float .f64 r) ∧ Hid (Near X D r) ∧ Below w.heap.size w w'
set_option maxRecDepth 100000 in
set_option maxHeartbeats 2000000 in
theorem rvalue_zero (A : Option Addr) (n cap : Nat) (ds : List UInt8) (x : Int) (w : World) (hn : ds.length = n) (hcap : n ≤ cap) (hcm : cap ≤ 9223372036854775807) (hra : Rd .u8 w A (cod ds)) (h0 : nz ds = n) (X D : Nat) (hX : X = 0) (hD : 0 < D) :
    Calls Try.prog 38 #[.slice A n cap, .int .i64 x] w (RVal w X D) := by
  have HZ := Lib.hid (show Near X D 0 by rw [hX]; exact near_zero hD)
  have HA := Lib.hid (fun (j : Nat) (hj : j < n) => show ∃ g o, A = some ⟨g, o, none⟩ ∧ w.cell? ⟨g, o + j, none⟩ = some (.int .u8 48) by
    obtain ⟨g, o, e, hc⟩ := hra j (by rw [cod_len, hn]; exact hj)
    refine ⟨g, o, e, ?_⟩
    rw [hc, cod_get (by omega), nz_at (by omega)]
    rfl)
  have hcc : cap = n ∨ ¬ cap = n := by omega
  clear hX hra hn h0
  rcases hcc with hc | hc
  all_goals
    go_enter Try.func38, Try.ntmps38
    go_wp2
    go_loop [5] (fun kv => ∃ j : Nat, j ≤ n ∧ kv = .int .i64 (j : Int)) (fun kv => n - (RowKit.intOf kv).toNat)
    case atStart => exact ⟨0, by omega, rfl⟩
    case round =>
      obtain ⟨j, hj, rfl⟩ := hrel
      by_cases hlt : j < n
      · obtain ⟨g, o, rfl, hcell⟩ := HA.out j hlt
        go_wp2_with fail
        go_round
        case rel => exact ⟨j + 1, by omega, by go_num⟩
        case measure => simp [RowKit.intOf]; omega
      · obtain rfl : j = n := by omega
        go_wp2_with fail
        go_ret
        exact ⟨0, rfl, HZ, Below.refl _ _⟩
end Go.Proofs.Ytelhbkfhalpniaa

namespace Go.Proofs.Ytelhbkfhalpniaa
open Go.RowKit Go.Lib

theorem nz_stop {l : List UInt8} (h : nz l < l.length) : l[nz l] ≠ 48 := by
  have e := nz_drop l
  rw [List.drop_eq_getElem_cons h] at e
  exact trim_head e.symm
theorem nz_pv (l : List UInt8) : pv l = pv (l.drop (nz l)) := by rw [nz_drop, pv_trim]
theorem lead_ge {l : List UInt8} (hd : Dec l) (h : nz l < l.length) : 10 ^ ((l.drop (nz l)).length - 1) ≤ pv (l.drop (nz l)) := by
  rw [List.drop_eq_getElem_cons h, List.length_cons, Nat.add_sub_cancel]
  refine pv_ge (fun c hc => hd c ?_) (nz_stop h)
  rw [← List.drop_eq_getElem_cons h] at hc
  exact List.drop_subset _ _ hc
set_option maxRecDepth 100000 in
set_option maxHeartbeats 2000000 in
theorem rvalue_low (g o n m k cap : Nat) (ds : List UInt8) (x : Int) (w : World) (hn : ds.length = n) (hk : nz ds = k) (hkm : n = k + m) (hm0 : 0 < m) (hm : m ≤ 1000) (hcap : n ≤ cap) (hcm : cap ≤ 9223372036854775807) (hx0 : -1000000 ≤ x) (hx9 : x ≤ 1000000) (hd : Dec ds) (hra : Rd .u8 w (some ⟨g, o, none⟩) (cod ds)) (hx : x + (m : Int) < -400) :
    Calls Try.prog 38 #[.slice (some ⟨g, o, none⟩) n cap, .int .i64 x] w (RVal w (2 * (pv ds * 10 ^ x.toNat) * S1074) (10 ^ (-x).toNat)) := by
  have hTl : (ds.drop k).length = m := by rw [List.length_drop]; omega
  have HA := Lib.hid (fun (j : Nat) (hj : j < k) => show w.cell? ⟨g, o + j, none⟩ = some (.int .u8 48) by
    rw [rd_cell hra (j := j) (by omega), nz_at (by omega)]
    rfl)
  obtain ⟨z, hz⟩ : ∃ z, (ds[k]'(by omega)).toNat = z := ⟨_, rfl⟩
  have hzc : w.cell? ⟨g, o + k, none⟩ = some (.int .u8 (z : Int)) := by rw [rd_cell hra (j := k) (by omega), hz]
  have hz48 : z ≠ 48 := by
    intro e
    subst hk
    exact nz_stop (l := ds) (by omega) (UInt8.toNat_inj.1 (by rw [hz, e]; rfl))
  have hzb : ((z : Int) == 48) = false := by rw [beq_eq_false_iff_ne]; omega
  have hp := nz_pv ds
  rw [hk] at hp
  have hTd : Dec (ds.drop k) := fun c hc => hd c (List.drop_subset _ _ hc)
  have hlead : 10 ^ (m - 1) ≤ pv (ds.drop k) := by
    have h := lead_ge hd (by omega)
    rwa [hk, hTl] at h
  have hlt := pv_lt hTd
  rw [hTl] at hlt
  rw [hp]
  obtain ⟨T, hT⟩ : ∃ T, ds.drop k = T := ⟨_, rfl⟩
  rw [hT] at hTl hTd hlead hlt
  rw [hT]
  have HZ := Lib.hid (near_low_end (e := x) hlt hx)
  have g1 : x + (m : Int) < -400 := hx
  obtain ⟨XX, hXX⟩ : ∃ XX, 2 * (pv T * 10 ^ x.toNat) * S1074 = XX := ⟨_, rfl⟩
  obtain ⟨DD, hDD⟩ : ∃ DD, 10 ^ (-x).toNat = DD := ⟨_, rfl⟩
  rw [hXX, hDD] at HZ ⊢
  have hnk : (n : Int) - (k : Int) = (m : Int) := by omega
  have hnk2 : n - k = m := by omega
  have hck : ¬ cap = k := by omega
  clear hTl hTd hlead hlt hp hz hz48 hra hd hn hk hT hx hXX hDD
  go_enter Try.func38, Try.ntmps38
  go_wp2
  go_loop [5] (fun kv => ∃ j : Nat, j ≤ k ∧ kv = .int .i64 (j : Int)) (fun kv => k - (RowKit.intOf kv).toNat)
  case atStart => exact ⟨0, by omega, rfl⟩
  case round =>
    obtain ⟨j, hj, rfl⟩ := hrel
    by_cases hlt : j < k
    · have hcell := HA.out j hlt
      go_wp2_with fail
      go_round
      case rel => exact ⟨j + 1, by omega, by go_num⟩
      case measure => simp [RowKit.intOf]; omega
    · obtain rfl : j = k := by omega
      go_wp2_with fail
      go_ret
      exact ⟨0, rfl, HZ, Below.refl _ _⟩
set_option maxRecDepth 100000 in
set_option maxHeartbeats 2000000 in
theorem rvalue_high (g o n m k cap : Nat) (ds : List UInt8) (x : Int) (w : World) (hn : ds.length = n) (hk : nz ds = k) (hkm : n = k + m) (hm0 : 0 < m) (hm : m ≤ 1000) (hcap : n ≤ cap) (hcm : cap ≤ 9223372036854775807) (hx0 : -1000000 ≤ x) (hx9 : x ≤ 1000000) (hd : Dec ds) (hra : Rd .u8 w (some ⟨g, o, none⟩) (cod ds)) (hx : 400 < x + (m : Int)) :
    Calls Try.prog 38 #[.slice (some ⟨g, o, none⟩) n cap, .int .i64 x] w (RVal w (2 * (pv ds * 10 ^ x.toNat) * S1074) (10 ^ (-x).toNat)) := by
  have hTl : (ds.drop k).length = m := by rw [List.length_drop]; omega
  have HA := Lib.hid (fun (j : Nat) (hj : j < k) => show w.cell? ⟨g, o + j, none⟩ = some (.int .u8 48) by
    rw [rd_cell hra (j := j) (by omega), nz_at (by omega)]
    rfl)
  obtain ⟨z, hz⟩ : ∃ z, (ds[k]'(by omega)).toNat = z := ⟨_, rfl⟩
  have hzc : w.cell? ⟨g, o + k, none⟩ = some (.int .u8 (z : Int)) := by rw [rd_cell hra (j := k) (by omega), hz]
  have hz48 : z ≠ 48 := by
    intro e
    subst hk
    exact nz_stop (l := ds) (by omega) (UInt8.toNat_inj.1 (by rw [hz, e]; rfl))
  have hzb : ((z : Int) == 48) = false := by rw [beq_eq_false_iff_ne]; omega
  have hp := nz_pv ds
  rw [hk] at hp
  have hTd : Dec (ds.drop k) := fun c hc => hd c (List.drop_subset _ _ hc)
  have hlead : 10 ^ (m - 1) ≤ pv (ds.drop k) := by
    have h := lead_ge hd (by omega)
    rwa [hk, hTl] at h
  have hlt := pv_lt hTd
  rw [hTl] at hlt
  rw [hp]
  obtain ⟨T, hT⟩ : ∃ T, ds.drop k = T := ⟨_, rfl⟩
  rw [hT] at hTl hTd hlead hlt
  rw [hT]
  have HZ := Lib.hid (near_high_end (e := x) hlead (by omega) hx)
  have hfr : ∀ W : World, (callFunc 12 #[.int .u64 9218868437227405312]).run Try.prog W = .ok (.value (.float .f64 9218868437227405312)) W := fun W => run_f64from 9218868437227405312 W
  have g1 : ¬ x + (m : Int) < -400 := by omega
  have g2 : 400 < x + (m : Int) := hx
  obtain ⟨XX, hXX⟩ : ∃ XX, 2 * (pv T * 10 ^ x.toNat) * S1074 = XX := ⟨_, rfl⟩
  obtain ⟨DD, hDD⟩ : ∃ DD, 10 ^ (-x).toNat = DD := ⟨_, rfl⟩
  rw [hXX, hDD] at HZ ⊢
  have hnk : (n : Int) - (k : Int) = (m : Int) := by omega
  have hnk2 : n - k = m := by omega
  have hck : ¬ cap = k := by omega
  clear hTl hTd hlead hlt hp hz hz48 hra hd hn hk hT hx hXX hDD
  go_enter Try.func38, Try.ntmps38
  go_wp2
  go_loop [5] (fun kv => ∃ j : Nat, j ≤ k ∧ kv = .int .i64 (j : Int)) (fun kv => k - (RowKit.intOf kv).toNat)
  case atStart => exact ⟨0, by omega, rfl⟩
  case round =>
    obtain ⟨j, hj, rfl⟩ := hrel
    by_cases hlt : j < k
    · have hcell := HA.out j hlt
      go_wp2_with fail
      go_round
      case rel => exact ⟨j + 1, by omega, by go_num⟩
      case measure => simp [RowKit.intOf]; omega
    · obtain rfl : j = k := by omega
      go_wp2_with fail
      go_ret
      exact ⟨_, rfl, HZ, Below.refl _ _⟩
set_option maxRecDepth 100000 in
set_option maxHeartbeats 2000000 in
theorem rvalue_mid (g o n m k cap : Nat) (ds : List UInt8) (x : Int) (w : World) (hn : ds.length = n) (hk : nz ds = k) (hkm : n = k + m) (hm0 : 0 < m) (hm : m ≤ 1000) (hcap : n ≤ cap) (hcm : cap ≤ 9223372036854775807) (_hx0 : -1000000 ≤ x) (_hx9 : x ≤ 1000000) (hd : Dec ds) (hra : Rd .u8 w (some ⟨g, o, none⟩) (cod ds)) (hx1 : -400 ≤ x + (m : Int)) (hx2 : x + (m : Int) ≤ 400) :
    Calls Try.prog 38 #[.slice (some ⟨g, o, none⟩) n cap, .int .i64 x] w (RVal w (2 * (pv ds * 10 ^ x.toNat) * S1074) (10 ^ (-x).toNat)) := by
  have hTl : (ds.drop k).length = m := by rw [List.length_drop]; omega
  have HA := Lib.hid (fun (j : Nat) (hj : j < k) => show w.cell? ⟨g, o + j, none⟩ = some (.int .u8 48) by
    rw [rd_cell hra (j := j) (by omega), nz_at (by omega)]
    rfl)
  obtain ⟨z, hz⟩ : ∃ z, (ds[k]'(by omega)).toNat = z := ⟨_, rfl⟩
  have hzc : w.cell? ⟨g, o + k, none⟩ = some (.int .u8 (z : Int)) := by rw [rd_cell hra (j := k) (by omega), hz]
  have hz48 : z ≠ 48 := by
    intro e
    subst hk
    exact nz_stop (l := ds) (by omega) (UInt8.toNat_inj.1 (by rw [hz, e]; rfl))
  have hzb : ((z : Int) == 48) = false := by rw [beq_eq_false_iff_ne]; omega
  have hp := nz_pv ds
  rw [hk] at hp
  have hTd : Dec (ds.drop k) := fun c hc => hd c (List.drop_subset _ _ hc)
  have hlead : 10 ^ (m - 1) ≤ pv (ds.drop k) := by
    have h := lead_ge hd (by omega)
    rwa [hk, hTl] at h
  have hlt := pv_lt hTd
  rw [hTl] at hlt
  rw [hp]
  obtain ⟨T, hT⟩ : ∃ T, ds.drop k = T := ⟨_, rfl⟩
  rw [hT] at hTl hTd hlead hlt
  rw [hT]
  obtain ⟨TB, hTB⟩ : ∃ TB : ByteArray, (⟨T.toArray⟩ : ByteArray) = TB := ⟨_, rfl⟩
  have hTBl : TB.data.toList = T := by rw [← hTB]
  have hcv : (convert 61 9 (.slice (some ⟨g, o + k, none⟩) m (cap - k))).run Try.prog w = .ok (.string TB) w := by
    have h := conv_rd w g (o + k) (cap - k) T (by rw [← hT]; exact rd_drop hra)
    rw [hTl, hTB] at h
    exact h
  have cR := rread_end TB x w (by rw [← ba_len, hTBl]; omega) (isDec_iff.2 ⟨by rw [← ba_len, hTBl]; omega, by rw [hTBl]; exact hTd⟩)
  rw [hTBl] at cR
  obtain ⟨XX, hXX⟩ : ∃ XX, 2 * (pv T * 10 ^ x.toNat) * S1074 = XX := ⟨_, rfl⟩
  obtain ⟨DD, hDD⟩ : ∃ DD, 10 ^ (-x).toNat = DD := ⟨_, rfl⟩
  rw [hXX, hDD] at cR ⊢
  have CR := Lib.hid cR
  have g1 : ¬ x + (m : Int) < -400 := by omega
  have g2 : ¬ 400 < x + (m : Int) := by omega
  have hnk : (n : Int) - (k : Int) = (m : Int) := by omega
  have hnk2 : n - k = m := by omega
  have hck : ¬ cap = k := by omega
  clear hTl hTd hlead hlt hp hz hz48 hra hd hn hk hT hTB hTBl cR hXX hDD hx1 hx2
  go_enter Try.func38, Try.ntmps38
  go_wp2
  go_loop [5] (fun kv => ∃ j : Nat, j ≤ k ∧ kv = .int .i64 (j : Int)) (fun kv => k - (RowKit.intOf kv).toNat)
  case atStart => exact ⟨0, by omega, rfl⟩
  case round =>
    obtain ⟨j, hj, rfl⟩ := hrel
    by_cases hlt : j < k
    · have hcell := HA.out j hlt
      go_wp2_with fail
      go_round
      case rel => exact ⟨j + 1, by omega, by go_num⟩
      case measure => simp [RowKit.intOf]; omega
    · obtain rfl : j = k := by omega
      go_wp2_with fail
      refine CR.out.mono ?_
      rintro e w1 ⟨r, rfl, hr, hB⟩
      go_wp2_with fail
      go_ret
      exact ⟨r, rfl, hr, hB⟩
end Go.Proofs.Ytelhbkfhalpniaa

namespace Go.Proofs.Ytelhbkfhalpniaa
open Go.RowKit Go.Lib

theorem near_same {X D X' D' r : Nat} (hD : 0 < D) (hD' : 0 < D') (h : X * D' = X' * D) (a : Near X D r) : Near X' D' r := by
  have le1 : ∀ M, M * D ≤ X → M * D' ≤ X' := fun M hM => by
    refine Nat.le_of_mul_le_mul_right (c := D) ?_ hD
    rw [← h, Nat.mul_right_comm]
    exact Nat.mul_le_mul_right _ hM
  have le2 : ∀ M, X ≤ M * D → X' ≤ M * D' := fun M hM => by
    refine Nat.le_of_mul_le_mul_right (c := D) ?_ hD
    rw [← h, Nat.mul_right_comm]
    exact Nat.mul_le_mul_right _ hM
  have eq2 : ∀ M, X' = M * D' → X = M * D := fun M hM => by
    exact Nat.eq_of_mul_eq_mul_right hD' (by rw [h, hM, Nat.mul_right_comm])
  exact ⟨fun q e => le1 _ (a.lo q e), fun q e g => a.loe q e (eq2 _ g.symm).symm, fun g => le2 _ (a.hi g), fun g e => a.hie g (eq2 _ e), a.top⟩
/-- Are the digits from the thousandth on all noughts? -/
def rsN (T : List UInt8) (i : Nat) : Nat := if ((T.take i).drop 1000).all (· == 48) = true then 48 else 49
theorem rsN_start (T : List UInt8) : rsN T 1000 = 48 := by
  unfold rsN
  rw [List.drop_eq_nil_of_le (by rw [List.length_take]; omega)]
  rfl
theorem rsN_step {T : List UInt8} {i : Nat} (h1 : 1000 ≤ i) (h2 : i < T.length) : rsN T (i + 1) = if T[i].toNat = 48 then rsN T i else 49 := by
  unfold rsN
  have e : (T.take (i + 1)).drop 1000 = (T.take i).drop 1000 ++ [T[i]] := by
    have e0 : T.take (i + 1) = T.take i ++ [T[i]] := List.take_succ_eq_append_getElem h2
    rw [e0, List.drop_append_of_le_length (by rw [List.length_take]; omega)]
  rw [e, List.all_append]
  by_cases hc : T[i].toNat = 48
  · have hb : (T[i] == 48) = true := by rw [beq_iff_eq]; exact UInt8.toNat_inj.1 (by rw [hc]; rfl)
    rw [if_pos hc]
    simp only [List.all_cons, List.all_nil, hb, Bool.and_true]
  · have hb : (T[i] == 48) = false := by rw [beq_eq_false_iff_ne]; intro e; exact hc (by rw [e]; rfl)
    rw [if_neg hc]
    simp only [List.all_cons, List.all_nil, hb, Bool.and_false, Bool.false_and]
    rfl
theorem rsN_two (T : List UInt8) (i : Nat) : rsN T i = 48 ∨ rsN T i = 49 := by
  unfold rsN
  split
  · exact Or.inl rfl
  · exact Or.inr rfl
theorem drop_all {l : List UInt8} {p : UInt8 → Bool} : l.dropWhile p = [] ↔ l.all p = true := by
  induction l with
  | nil => exact ⟨fun _ => rfl, fun _ => rfl⟩
  | cons c t ih =>
    rw [List.dropWhile_cons, List.all_cons]
    cases h : p c with
    | true => rw [if_pos rfl, Bool.true_and]; exact ih
    | false => rw [if_neg (by decide), Bool.false_and]; exact ⟨fun e => (by cases e), fun e => (by cases e)⟩
theorem reorder {s P t a b c u v z : Nat} (e : t * a * b = c * u * v) : s * (P * t * a) * z * b = s * (P * c * u) * z * v := by
  calc s * (P * t * a) * z * b = s * P * z * (t * a * b) := by ac_rfl
    _ = s * P * z * (c * u * v) := by rw [e]
    _ = s * (P * c * u) * z * v := by ac_rfl
/-- What the cut digits give is the whole's. -/
theorem cut_thousand {T : List UInt8} {m : Nat} {x E : Int} (hTl : T.length = m) (hm : 1000 < m) (hd : Dec T) (hlead : 10 ^ (m - 1) ≤ pv T) (hE : x + (m : Int) - 1001 = E) {d : UInt8} (hdd : d.toNat = rsN T m) {r : Nat}
    (h : Near (2 * (pv (T.take 1000 ++ [d]) * 10 ^ E.toNat) * S1074) (10 ^ (-E).toNat) r) : Near (2 * (pv T * 10 ^ x.toNat) * S1074) (10 ^ (-x).toNat) r := by
  have hs : pv T = pv (T.take 1000) * 10 ^ (m - 1000) + pv (T.drop 1000) := by
    have e := pv_append (T.take 1000) (T.drop 1000)
    rw [List.take_append_drop, List.length_drop, hTl] at e
    exact e
  have hdl := pv_lt (fun c hc => hd c (List.drop_subset _ _ hc) : Dec (T.drop 1000))
  rw [List.length_drop, hTl] at hdl
  have hall : (T.take m).drop 1000 = T.drop 1000 := by rw [List.take_of_length_le (by omega)]
  obtain ⟨P, hP⟩ : ∃ P, pv (T.take 1000) = P := ⟨_, rfl⟩
  rw [hP] at hs
  obtain ⟨q, hq⟩ : ∃ q : Nat, q = 999 := ⟨_, rfl⟩
  have hPb : 10 ^ q ≤ P := by
    rcases Nat.lt_or_ge P (10 ^ q) with hlt | hge
    · exfalso
      have h1 : pv T < (P + 1) * 10 ^ (m - 1000) := by rw [hs, Nat.succ_mul]; omega
      have h2 : (P + 1) * 10 ^ (m - 1000) ≤ 10 ^ q * 10 ^ (m - 1000) := Nat.mul_le_mul_right _ hlt
      rw [← Nat.pow_add, show q + (m - 1000) = m - 1 by omega] at h2
      omega
    · exact hge
  rw [pv_append, hP] at h
  by_cases hz : ((T.take m).drop 1000).all (· == 48) = true
  · have hd48 : d = 48 := UInt8.toNat_inj.1 (by rw [hdd]; unfold rsN; rw [if_pos hz]; rfl)
    have hz0 : pv (T.drop 1000) = 0 := by
      rw [hall] at hz
      rw [← pv_trim]
      have : (T.drop 1000).dropWhile (· == 48) = [] := drop_all.2 hz
      rw [this]
      rfl
    rw [hz0, Nat.add_zero] at hs
    rw [hd48, show pv [48] = 0 by decide, Nat.add_zero, List.length_singleton, Nat.pow_one] at h
    refine near_same (Nat.pow_pos (by omega)) (Nat.pow_pos (by omega)) ?_ h
    rw [hs]
    have e : 10 * 10 ^ E.toNat * 10 ^ (-x).toNat = 10 ^ (m - 1000) * 10 ^ x.toNat * 10 ^ (-E).toNat := by
      rw [← Nat.pow_succ', ← Nat.pow_add, ← Nat.pow_add, ← Nat.pow_add]
      congr 1
      omega
    exact reorder e
  · have hd49 : d = 49 := UInt8.toNat_inj.1 (by rw [hdd]; unfold rsN; rw [if_neg hz]; rfl)
    have hpos : 0 < pv (T.drop 1000) := by
      refine pv_zero_iff (fun c hc => hd c (List.drop_subset _ _ hc)) ?_
      intro e
      rw [hall] at hz
      exact hz (drop_all.1 e)
    rw [hd49, show pv [49] = 1 by decide, List.length_singleton, Nat.pow_one] at h
    obtain ⟨t, ht⟩ : ∃ t : Nat, t = 768 := ⟨_, rfl⟩
    refine near_cut (P := P) (n := P * 10 + 1) (k := 1) (k' := m - 1000) (y := E) (t := t) ht (Nat.le_trans (Nat.pow_le_pow_right (by omega) (by omega)) hPb) (by omega) ?_ ?_ ?_ ?_ h
    · rw [Nat.pow_one]; exact Nat.lt_succ_self _
    · rw [Nat.pow_one, Nat.succ_mul]; omega
    · rw [hs]; omega
    · rw [hs, Nat.succ_mul]; omega
theorem own_empty (w : World) (t : TypeId) : Own .u8 (w.alloc (.cells #[] t)) w.heap.size t (.slice (some ⟨w.heap.size, 0, none⟩) 0 0) [] :=
  own_of_at (R := []) ⟨#[], heap_alloc_new w _, rfl⟩ (Nat.le_refl _) rfl (by decide)
set_option maxRecDepth 100000 in
set_option maxHeartbeats 2000000 in
theorem rvalue_low_long (g o n m k cap : Nat) (ds : List UInt8) (x : Int) (w : World) (hn : ds.length = n) (hk : nz ds = k) (hkm : n = k + m) (hm : 1000 < m) (hm9 : m ≤ 100000) (hcap : n ≤ cap) (hcm : cap ≤ 9223372036854775807) (hx0 : -1000000 ≤ x) (hx9 : x ≤ 1000000) (hd : Dec ds) (hra : Rd .u8 w (some ⟨g, o, none⟩) (cod ds)) (hx : x + (m : Int) < -400) :
    Calls Try.prog 38 #[.slice (some ⟨g, o, none⟩) n cap, .int .i64 x] w (RVal w (2 * (pv ds * 10 ^ x.toNat) * S1074) (10 ^ (-x).toNat)) := by
  obtain ⟨i0, hi, hz0, hz1, hz2⟩ := info_parts info_u8
  have hTl : (ds.drop k).length = m := by rw [List.length_drop]; omega
  have HA := Lib.hid (fun (j : Nat) (hj : j < k) => show w.cell? ⟨g, o + j, none⟩ = some (.int .u8 48) by
    rw [rd_cell hra (j := j) (by omega), nz_at (by omega)]
    rfl)
  obtain ⟨z, hz⟩ : ∃ z, (ds[k]'(by omega)).toNat = z := ⟨_, rfl⟩
  have hzc : w.cell? ⟨g, o + k, none⟩ = some (.int .u8 (z : Int)) := by rw [rd_cell hra (j := k) (by omega), hz]
  have hz48 : z ≠ 48 := by
    intro e
    subst hk
    exact nz_stop (l := ds) (by omega) (UInt8.toNat_inj.1 (by rw [hz, e]; rfl))
  have hzb : ((z : Int) == 48) = false := by rw [beq_eq_false_iff_ne]; omega
  have hp := nz_pv ds
  rw [hk] at hp
  have hTd : Dec (ds.drop k) := fun c hc => hd c (List.drop_subset _ _ hc)
  have hlead : 10 ^ (m - 1) ≤ pv (ds.drop k) := by
    have h := lead_ge hd (by omega)
    rwa [hk, hTl] at h
  have hlt := pv_lt hTd
  rw [hTl] at hlt
  rw [hp]
  have hrT : Rd .u8 w (some ⟨g, o + k, none⟩) (cod (ds.drop k)) := rd_drop hra
  obtain ⟨T, hT⟩ : ∃ T, ds.drop k = T := ⟨_, rfl⟩
  rw [hT] at hTl hTd hlead hlt hrT
  rw [hT]
  have HCT := Lib.hid (fun (j : Nat) (hj : j < m) (hj2 : j < T.length) => show w.cell? ⟨g, o + k + j, none⟩ = some (.int .u8 (((T[j]'hj2).toNat : Nat) : Int)) from rd_cell hrT hj2)
  have HTL := Lib.hid hTl
  have HST := Lib.hid (fun (i : Nat) (h1 : 1000 ≤ i) (h2 : i < T.length) => show rsN T (i + 1) = if (T[i]'h2).toNat = 48 then rsN T i else 49 from rsN_step h1 h2)
  have HS0 := Lib.hid (rsN_start T)
  obtain ⟨E, hE⟩ : ∃ E, x + (m : Int) - 1001 = E := ⟨_, rfl⟩
  have hKt : (T.take 1000).length = 1000 := by rw [List.length_take]; omega
  have HNW := Lib.hid (fun (W : World) (hb : Below w.heap.size w W) => show Rd .u8 W (some ⟨g, o + k, none⟩) (cod (T.take 1000)) by
    have h := (hrT.below hb).take 1000
    have e : (cod T).take 1000 = cod (T.take 1000) := List.map_take.symm
    rwa [e] at h)
  have HKd := Lib.hid (show Dec (T.take 1000) from fun c hc => hTd c (List.take_subset _ _ hc))
  have HKL := Lib.hid hKt
  have HZ := Lib.hid (near_low_end (e := x) hlt hx)
  have g1 : E + 1001 < -400 := by omega
  obtain ⟨XX, hXX⟩ : ∃ XX, 2 * (pv T * 10 ^ x.toNat) * S1074 = XX := ⟨_, rfl⟩
  obtain ⟨DD, hDD⟩ : ∃ DD, 10 ^ (-x).toNat = DD := ⟨_, rfl⟩
  rw [hXX, hDD] at HZ ⊢
  have hnk : (n : Int) - (k : Int) = (m : Int) := by omega
  have hnk2 : n - k = m := by omega
  have hck : ¬ cap = k := by omega
  have h1000 : 1000 ≤ cap - k := by omega
  have h1000i : (1000 : Int) ≤ ((cap - k : Nat) : Int) := by omega
  have hEb1 : -2000000 ≤ E := by omega
  have hEb2 : E ≤ 2000000 := by omega
  clear hTl hTd hlead hlt hp hz hz48 hra hd hn hk hT hrT hKt hXX hDD hx
  go_enter Try.func38, Try.ntmps38
  go_wp2
  go_loop [5] (fun kv => ∃ j : Nat, j ≤ k ∧ kv = .int .i64 (j : Int)) (fun kv => k - (RowKit.intOf kv).toNat)
  case atStart => exact ⟨0, by omega, rfl⟩
  case round =>
    obtain ⟨j, hj, rfl⟩ := hrel
    by_cases hlt : j < k
    · have hcell := HA.out j hlt
      go_wp2_with fail
      go_round
      case rel => exact ⟨j + 1, by omega, by go_num⟩
      case measure => simp [RowKit.intOf]; omega
    · obtain rfl : k = j := by omega
      go_wp2_with fail
      go_loop [6, 7] (fun rv iv => ∃ i r : Nat, 1000 ≤ i ∧ i ≤ m ∧ iv = .int .i64 (i : Int) ∧ rv = .int .u8 (r : Int) ∧ r = rsN T i) (fun _ iv => m - (RowKit.intOf iv).toNat)
      case atStart => exact ⟨1000, 48, by omega, by omega, rfl, rfl, HS0.out.symm⟩
      case round =>
        obtain ⟨i, r, hi1, hi2, rfl, rfl, hr⟩ := hrel
        have HR := Lib.hid hr
        clear hr
        by_cases him : i < m
        · have him2 : i < T.length := by rw [HTL.out]; exact him
          have hcell := HCT.out i him him2
          have hst := HST.out i hi1 him2
          obtain ⟨y, hy⟩ : ∃ y, (T[i]'him2).toNat = y := ⟨_, rfl⟩
          rw [hy] at hcell hst
          have hcell2 : w.cell? ⟨g, o + (k + i), none⟩ = some (.int .u8 (y : Int)) := by rw [← Nat.add_assoc]; exact hcell
          have hyb := hy ▸ UInt8.toNat_lt (T[i]'him2)
          clear hy
          by_cases hy48 : y = 48
          · have hb : ((y : Int) != 48) = false := by rw [bne_eq_false_iff_eq]; omega
            rw [if_pos hy48] at hst
            have HN := Lib.hid (show r = rsN T (i + 1) by rw [hst]; exact HR.out)
            clear hst hy48
            go_wp2_with fail
            go_round
            case rel => exact ⟨i + 1, r, by omega, by omega, by go_num, rfl, HN.out⟩
            case measure => simp [RowKit.intOf]; omega
          · have hb : ((y : Int) != 48) = true := by rw [bne_iff_ne]; omega
            rw [if_neg hy48] at hst
            have HN := Lib.hid hst.symm
            clear hst hy48
            go_wp2_with fail
            go_round
            case rel => exact ⟨i + 1, 49, by omega, by omega, by go_num, rfl, HN.out⟩
            case measure => simp [RowKit.intOf]; omega
        · obtain rfl : m = i := by omega
          have hr2 : r = 48 ∨ r = 49 := by rw [HR.out]; exact rsN_two T _
          have hE0 := own_empty w 5
          have hb1 := (Below.refl w.heap.size w).alloc (Nat.le_refl _) (.cells #[] 5)
          have hsrc := (HNW.out _ (Below.alloc (Below.refl w.heap.size w) (Nat.le_refl _) (.cells #[] 5))).news
          go_wp2_with (at_builtin; refine wpList_append_own _ rfl _ _ 61 rfl w.heap.size 5 i0 (.int .u8 0) 1 1 Try.underlying61 hi hz0 hz1 hz2 rfl (by decide) _ 0 [] rfl hE0 ⟨g, o + k, none⟩ 1000 (cap - k) (nums .u8 (cod (T.take 1000))) rfl ?c1 hsrc (nums_one _ _) ?c3 ?c4 ?c5 ?_)
          try (case c1 => rw [nums_len, cod_len]; have := HKL.out; omega)
          try (case c3 => unfold maxLen; omega)
          try (case c4 => omega)
          try (case c5 => simp)
          intro v1 w1 hown1 hgrow1 _
          have hO1 : Own .u8 w1 w.heap.size 5 v1 (cod (T.take 1000)) := by
            unfold Own
            rw [cod_len, HKL.out]
            exact hown1
          have hB1 : Below w.heap.size w w1 := hb1.grown hgrow1 (by simp) (fun z e => (World.ownsRow.lt hE0 z e).1)
          have hown2 := hO1.row (n := 1000) (by rw [cod_len]; exact HKL.out)
          have HO1 := Lib.hid hO1
          have hsz1 := hB1.size
          clear hown1 hgrow1 hO1 hsrc hE0 hb1
          go_wp2_with (at_builtin; refine wpList_append_own _ rfl _ _ 61 rfl w.heap.size 5 i0 (.int .u8 0) 1 1 Try.underlying61 hi hz0 hz1 hz2 rfl (by decide) _ 1000 _ rfl (hown2.alloc _) ⟨w1.heap.size, 0, none⟩ 1 1 [.int .u8 (r : Int)] rfl rfl (cell_one_new _ _ _) ?d2 ?d3 ?d4 ?d5 ?_)
          try (case d2 => simp [Value.oneCell'])
          try (case d3 => unfold maxLen; omega)
          try (case d4 => omega)
          try (case d5 => simp; omega)
          intro v2 w2 hown3 hgrow2 _
          have hO2 : Own .u8 w2 w.heap.size 5 v2 (cod (T.take 1000) ++ [r]) := Own.snoc hown3 (by rw [cod_len]; exact HKL.out.symm)
          have hB2 : Below w.heap.size w w2 := (hB1.alloc hsz1 _).grown hgrow2 (by simp; omega) (fun z e => (World.ownsRow.lt HO1.out z e).1)
          obtain ⟨d, hdr⟩ : ∃ d : UInt8, d.toNat = r := hr2.elim (fun h => ⟨48, by rw [h]; rfl⟩) (fun h => ⟨49, by rw [h]; rfl⟩)
          have hcod : cod (T.take 1000) ++ [r] = cod (T.take 1000 ++ [d]) := by rw [← hdr]; simp [cod]
          rw [hcod] at hO2
          have hLl : (T.take 1000 ++ [d]).length = 1001 := by rw [List.length_append, HKL.out]; rfl
          obtain ⟨A2, c2, rfl, hc21, hc22⟩ := hO2.slice
          rw [cod_len, hLl] at hc21
          rw [cod_len, hLl] at hO2 ⊢
          clear hown2 hown3 hgrow2 HO1 hcod hr2 hdr
          go_wp2_with fail
          go_ret
          exact ⟨0, rfl, HZ, hB2⟩
set_option maxRecDepth 100000 in
set_option maxHeartbeats 2000000 in
theorem rvalue_high_long (g o n m k cap : Nat) (ds : List UInt8) (x : Int) (w : World) (hn : ds.length = n) (hk : nz ds = k) (hkm : n = k + m) (hm : 1000 < m) (hm9 : m ≤ 100000) (hcap : n ≤ cap) (hcm : cap ≤ 9223372036854775807) (hx0 : -1000000 ≤ x) (hx9 : x ≤ 1000000) (hd : Dec ds) (hra : Rd .u8 w (some ⟨g, o, none⟩) (cod ds)) (hx : 400 < x + (m : Int)) :
    Calls Try.prog 38 #[.slice (some ⟨g, o, none⟩) n cap, .int .i64 x] w (RVal w (2 * (pv ds * 10 ^ x.toNat) * S1074) (10 ^ (-x).toNat)) := by
  obtain ⟨i0, hi, hz0, hz1, hz2⟩ := info_parts info_u8
  have hTl : (ds.drop k).length = m := by rw [List.length_drop]; omega
  have HA := Lib.hid (fun (j : Nat) (hj : j < k) => show w.cell? ⟨g, o + j, none⟩ = some (.int .u8 48) by
    rw [rd_cell hra (j := j) (by omega), nz_at (by omega)]
    rfl)
  obtain ⟨z, hz⟩ : ∃ z, (ds[k]'(by omega)).toNat = z := ⟨_, rfl⟩
  have hzc : w.cell? ⟨g, o + k, none⟩ = some (.int .u8 (z : Int)) := by rw [rd_cell hra (j := k) (by omega), hz]
  have hz48 : z ≠ 48 := by
    intro e
    subst hk
    exact nz_stop (l := ds) (by omega) (UInt8.toNat_inj.1 (by rw [hz, e]; rfl))
  have hzb : ((z : Int) == 48) = false := by rw [beq_eq_false_iff_ne]; omega
  have hp := nz_pv ds
  rw [hk] at hp
  have hTd : Dec (ds.drop k) := fun c hc => hd c (List.drop_subset _ _ hc)
  have hlead : 10 ^ (m - 1) ≤ pv (ds.drop k) := by
    have h := lead_ge hd (by omega)
    rwa [hk, hTl] at h
  have hlt := pv_lt hTd
  rw [hTl] at hlt
  rw [hp]
  have hrT : Rd .u8 w (some ⟨g, o + k, none⟩) (cod (ds.drop k)) := rd_drop hra
  obtain ⟨T, hT⟩ : ∃ T, ds.drop k = T := ⟨_, rfl⟩
  rw [hT] at hTl hTd hlead hlt hrT
  rw [hT]
  have HCT := Lib.hid (fun (j : Nat) (hj : j < m) (hj2 : j < T.length) => show w.cell? ⟨g, o + k + j, none⟩ = some (.int .u8 (((T[j]'hj2).toNat : Nat) : Int)) from rd_cell hrT hj2)
  have HTL := Lib.hid hTl
  have HST := Lib.hid (fun (i : Nat) (h1 : 1000 ≤ i) (h2 : i < T.length) => show rsN T (i + 1) = if (T[i]'h2).toNat = 48 then rsN T i else 49 from rsN_step h1 h2)
  have HS0 := Lib.hid (rsN_start T)
  obtain ⟨E, hE⟩ : ∃ E, x + (m : Int) - 1001 = E := ⟨_, rfl⟩
  have hKt : (T.take 1000).length = 1000 := by rw [List.length_take]; omega
  have HNW := Lib.hid (fun (W : World) (hb : Below w.heap.size w W) => show Rd .u8 W (some ⟨g, o + k, none⟩) (cod (T.take 1000)) by
    have h := (hrT.below hb).take 1000
    have e : (cod T).take 1000 = cod (T.take 1000) := List.map_take.symm
    rwa [e] at h)
  have HKd := Lib.hid (show Dec (T.take 1000) from fun c hc => hTd c (List.take_subset _ _ hc))
  have HKL := Lib.hid hKt
  have HZ := Lib.hid (near_high_end (e := x) hlead (by omega) hx)
  have hfr : ∀ W : World, (callFunc 12 #[.int .u64 9218868437227405312]).run Try.prog W = .ok (.value (.float .f64 9218868437227405312)) W := fun W => run_f64from 9218868437227405312 W
  have g1 : ¬ E + 1001 < -400 := by omega
  have g2 : 400 < E + 1001 := by omega
  obtain ⟨XX, hXX⟩ : ∃ XX, 2 * (pv T * 10 ^ x.toNat) * S1074 = XX := ⟨_, rfl⟩
  obtain ⟨DD, hDD⟩ : ∃ DD, 10 ^ (-x).toNat = DD := ⟨_, rfl⟩
  rw [hXX, hDD] at HZ ⊢
  have hnk : (n : Int) - (k : Int) = (m : Int) := by omega
  have hnk2 : n - k = m := by omega
  have hck : ¬ cap = k := by omega
  have h1000 : 1000 ≤ cap - k := by omega
  have h1000i : (1000 : Int) ≤ ((cap - k : Nat) : Int) := by omega
  have hEb1 : -2000000 ≤ E := by omega
  have hEb2 : E ≤ 2000000 := by omega
  clear hTl hTd hlead hlt hp hz hz48 hra hd hn hk hT hrT hKt hXX hDD hx
  go_enter Try.func38, Try.ntmps38
  go_wp2
  go_loop [5] (fun kv => ∃ j : Nat, j ≤ k ∧ kv = .int .i64 (j : Int)) (fun kv => k - (RowKit.intOf kv).toNat)
  case atStart => exact ⟨0, by omega, rfl⟩
  case round =>
    obtain ⟨j, hj, rfl⟩ := hrel
    by_cases hlt : j < k
    · have hcell := HA.out j hlt
      go_wp2_with fail
      go_round
      case rel => exact ⟨j + 1, by omega, by go_num⟩
      case measure => simp [RowKit.intOf]; omega
    · obtain rfl : k = j := by omega
      go_wp2_with fail
      go_loop [6, 7] (fun rv iv => ∃ i r : Nat, 1000 ≤ i ∧ i ≤ m ∧ iv = .int .i64 (i : Int) ∧ rv = .int .u8 (r : Int) ∧ r = rsN T i) (fun _ iv => m - (RowKit.intOf iv).toNat)
      case atStart => exact ⟨1000, 48, by omega, by omega, rfl, rfl, HS0.out.symm⟩
      case round =>
        obtain ⟨i, r, hi1, hi2, rfl, rfl, hr⟩ := hrel
        have HR := Lib.hid hr
        clear hr
        by_cases him : i < m
        · have him2 : i < T.length := by rw [HTL.out]; exact him
          have hcell := HCT.out i him him2
          have hst := HST.out i hi1 him2
          obtain ⟨y, hy⟩ : ∃ y, (T[i]'him2).toNat = y := ⟨_, rfl⟩
          rw [hy] at hcell hst
          have hcell2 : w.cell? ⟨g, o + (k + i), none⟩ = some (.int .u8 (y : Int)) := by rw [← Nat.add_assoc]; exact hcell
          have hyb := hy ▸ UInt8.toNat_lt (T[i]'him2)
          clear hy
          by_cases hy48 : y = 48
          · have hb : ((y : Int) != 48) = false := by rw [bne_eq_false_iff_eq]; omega
            rw [if_pos hy48] at hst
            have HN := Lib.hid (show r = rsN T (i + 1) by rw [hst]; exact HR.out)
            clear hst hy48
            go_wp2_with fail
            go_round
            case rel => exact ⟨i + 1, r, by omega, by omega, by go_num, rfl, HN.out⟩
            case measure => simp [RowKit.intOf]; omega
          · have hb : ((y : Int) != 48) = true := by rw [bne_iff_ne]; omega
            rw [if_neg hy48] at hst
            have HN := Lib.hid hst.symm
            clear hst hy48
            go_wp2_with fail
            go_round
            case rel => exact ⟨i + 1, 49, by omega, by omega, by go_num, rfl, HN.out⟩
            case measure => simp [RowKit.intOf]; omega
        · obtain rfl : m = i := by omega
          have hr2 : r = 48 ∨ r = 49 := by rw [HR.out]; exact rsN_two T _
          have hE0 := own_empty w 5
          have hb1 := (Below.refl w.heap.size w).alloc (Nat.le_refl _) (.cells #[] 5)
          have hsrc := (HNW.out _ (Below.alloc (Below.refl w.heap.size w) (Nat.le_refl _) (.cells #[] 5))).news
          go_wp2_with (at_builtin; refine wpList_append_own _ rfl _ _ 61 rfl w.heap.size 5 i0 (.int .u8 0) 1 1 Try.underlying61 hi hz0 hz1 hz2 rfl (by decide) _ 0 [] rfl hE0 ⟨g, o + k, none⟩ 1000 (cap - k) (nums .u8 (cod (T.take 1000))) rfl ?c1 hsrc (nums_one _ _) ?c3 ?c4 ?c5 ?_)
          try (case c1 => rw [nums_len, cod_len]; have := HKL.out; omega)
          try (case c3 => unfold maxLen; omega)
          try (case c4 => omega)
          try (case c5 => simp)
          intro v1 w1 hown1 hgrow1 _
          have hO1 : Own .u8 w1 w.heap.size 5 v1 (cod (T.take 1000)) := by
            unfold Own
            rw [cod_len, HKL.out]
            exact hown1
          have hB1 : Below w.heap.size w w1 := hb1.grown hgrow1 (by simp) (fun z e => (World.ownsRow.lt hE0 z e).1)
          have hown2 := hO1.row (n := 1000) (by rw [cod_len]; exact HKL.out)
          have HO1 := Lib.hid hO1
          have hsz1 := hB1.size
          clear hown1 hgrow1 hO1 hsrc hE0 hb1
          go_wp2_with (at_builtin; refine wpList_append_own _ rfl _ _ 61 rfl w.heap.size 5 i0 (.int .u8 0) 1 1 Try.underlying61 hi hz0 hz1 hz2 rfl (by decide) _ 1000 _ rfl (hown2.alloc _) ⟨w1.heap.size, 0, none⟩ 1 1 [.int .u8 (r : Int)] rfl rfl (cell_one_new _ _ _) ?d2 ?d3 ?d4 ?d5 ?_)
          try (case d2 => simp [Value.oneCell'])
          try (case d3 => unfold maxLen; omega)
          try (case d4 => omega)
          try (case d5 => simp; omega)
          intro v2 w2 hown3 hgrow2 _
          have hO2 : Own .u8 w2 w.heap.size 5 v2 (cod (T.take 1000) ++ [r]) := Own.snoc hown3 (by rw [cod_len]; exact HKL.out.symm)
          have hB2 : Below w.heap.size w w2 := (hB1.alloc hsz1 _).grown hgrow2 (by simp; omega) (fun z e => (World.ownsRow.lt HO1.out z e).1)
          obtain ⟨d, hdr⟩ : ∃ d : UInt8, d.toNat = r := hr2.elim (fun h => ⟨48, by rw [h]; rfl⟩) (fun h => ⟨49, by rw [h]; rfl⟩)
          have hcod : cod (T.take 1000) ++ [r] = cod (T.take 1000 ++ [d]) := by rw [← hdr]; simp [cod]
          rw [hcod] at hO2
          have hLl : (T.take 1000 ++ [d]).length = 1001 := by rw [List.length_append, HKL.out]; rfl
          obtain ⟨A2, c2, rfl, hc21, hc22⟩ := hO2.slice
          rw [cod_len, hLl] at hc21
          rw [cod_len, hLl] at hO2 ⊢
          clear hown2 hown3 hgrow2 HO1 hcod hr2 hdr
          go_wp2_with fail
          go_ret
          exact ⟨_, rfl, HZ, hB2⟩
set_option maxRecDepth 100000 in
set_option maxHeartbeats 2000000 in
theorem rvalue_mid_long (g o n m k cap : Nat) (ds : List UInt8) (x : Int) (w : World) (hn : ds.length = n) (hk : nz ds = k) (hkm : n = k + m) (hm : 1000 < m) (hm9 : m ≤ 100000) (hcap : n ≤ cap) (hcm : cap ≤ 9223372036854775807) (_hx0 : -1000000 ≤ x) (_hx9 : x ≤ 1000000) (hd : Dec ds) (hra : Rd .u8 w (some ⟨g, o, none⟩) (cod ds)) (hx1 : -400 ≤ x + (m : Int)) (hx2 : x + (m : Int) ≤ 400) :
    Calls Try.prog 38 #[.slice (some ⟨g, o, none⟩) n cap, .int .i64 x] w (RVal w (2 * (pv ds * 10 ^ x.toNat) * S1074) (10 ^ (-x).toNat)) := by
  obtain ⟨i0, hi, hz0, hz1, hz2⟩ := info_parts info_u8
  have hTl : (ds.drop k).length = m := by rw [List.length_drop]; omega
  have HA := Lib.hid (fun (j : Nat) (hj : j < k) => show w.cell? ⟨g, o + j, none⟩ = some (.int .u8 48) by
    rw [rd_cell hra (j := j) (by omega), nz_at (by omega)]
    rfl)
  obtain ⟨z, hz⟩ : ∃ z, (ds[k]'(by omega)).toNat = z := ⟨_, rfl⟩
  have hzc : w.cell? ⟨g, o + k, none⟩ = some (.int .u8 (z : Int)) := by rw [rd_cell hra (j := k) (by omega), hz]
  have hz48 : z ≠ 48 := by
    intro e
    subst hk
    exact nz_stop (l := ds) (by omega) (UInt8.toNat_inj.1 (by rw [hz, e]; rfl))
  have hzb : ((z : Int) == 48) = false := by rw [beq_eq_false_iff_ne]; omega
  have hp := nz_pv ds
  rw [hk] at hp
  have hTd : Dec (ds.drop k) := fun c hc => hd c (List.drop_subset _ _ hc)
  have hlead : 10 ^ (m - 1) ≤ pv (ds.drop k) := by
    have h := lead_ge hd (by omega)
    rwa [hk, hTl] at h
  have hlt := pv_lt hTd
  rw [hTl] at hlt
  rw [hp]
  have hrT : Rd .u8 w (some ⟨g, o + k, none⟩) (cod (ds.drop k)) := rd_drop hra
  obtain ⟨T, hT⟩ : ∃ T, ds.drop k = T := ⟨_, rfl⟩
  rw [hT] at hTl hTd hlead hlt hrT
  rw [hT]
  have HCT := Lib.hid (fun (j : Nat) (hj : j < m) (hj2 : j < T.length) => show w.cell? ⟨g, o + k + j, none⟩ = some (.int .u8 (((T[j]'hj2).toNat : Nat) : Int)) from rd_cell hrT hj2)
  have HTL := Lib.hid hTl
  have HST := Lib.hid (fun (i : Nat) (h1 : 1000 ≤ i) (h2 : i < T.length) => show rsN T (i + 1) = if (T[i]'h2).toNat = 48 then rsN T i else 49 from rsN_step h1 h2)
  have HS0 := Lib.hid (rsN_start T)
  obtain ⟨E, hE⟩ : ∃ E, x + (m : Int) - 1001 = E := ⟨_, rfl⟩
  have hKt : (T.take 1000).length = 1000 := by rw [List.length_take]; omega
  have HNW := Lib.hid (fun (W : World) (hb : Below w.heap.size w W) => show Rd .u8 W (some ⟨g, o + k, none⟩) (cod (T.take 1000)) by
    have h := (hrT.below hb).take 1000
    have e : (cod T).take 1000 = cod (T.take 1000) := List.map_take.symm
    rwa [e] at h)
  have HKd := Lib.hid (show Dec (T.take 1000) from fun c hc => hTd c (List.take_subset _ _ hc))
  have HKL := Lib.hid hKt
  have HM := Lib.hid (fun (d : UInt8) (hdd : d.toNat = rsN T m) (r : Nat) h => cut_thousand (r := r) hTl hm hTd hlead hE hdd h)
  have g1 : ¬ E + 1001 < -400 := by omega
  have g2 : ¬ 400 < E + 1001 := by omega
  obtain ⟨XX, hXX⟩ : ∃ XX, 2 * (pv T * 10 ^ x.toNat) * S1074 = XX := ⟨_, rfl⟩
  obtain ⟨DD, hDD⟩ : ∃ DD, 10 ^ (-x).toNat = DD := ⟨_, rfl⟩
  rw [hXX, hDD] at HM ⊢
  have hnk : (n : Int) - (k : Int) = (m : Int) := by omega
  have hnk2 : n - k = m := by omega
  have hck : ¬ cap = k := by omega
  have h1000 : 1000 ≤ cap - k := by omega
  have h1000i : (1000 : Int) ≤ ((cap - k : Nat) : Int) := by omega
  have hEb1 : -2000000 ≤ E := by omega
  have hEb2 : E ≤ 2000000 := by omega
  clear hTl hTd hlead hlt hp hz hz48 hra hd hn hk hT hrT hKt hXX hDD hx1 hx2
  go_enter Try.func38, Try.ntmps38
  go_wp2
  go_loop [5] (fun kv => ∃ j : Nat, j ≤ k ∧ kv = .int .i64 (j : Int)) (fun kv => k - (RowKit.intOf kv).toNat)
  case atStart => exact ⟨0, by omega, rfl⟩
  case round =>
    obtain ⟨j, hj, rfl⟩ := hrel
    by_cases hlt : j < k
    · have hcell := HA.out j hlt
      go_wp2_with fail
      go_round
      case rel => exact ⟨j + 1, by omega, by go_num⟩
      case measure => simp [RowKit.intOf]; omega
    · obtain rfl : k = j := by omega
      go_wp2_with fail
      go_loop [6, 7] (fun rv iv => ∃ i r : Nat, 1000 ≤ i ∧ i ≤ m ∧ iv = .int .i64 (i : Int) ∧ rv = .int .u8 (r : Int) ∧ r = rsN T i) (fun _ iv => m - (RowKit.intOf iv).toNat)
      case atStart => exact ⟨1000, 48, by omega, by omega, rfl, rfl, HS0.out.symm⟩
      case round =>
        obtain ⟨i, r, hi1, hi2, rfl, rfl, hr⟩ := hrel
        have HR := Lib.hid hr
        clear hr
        by_cases him : i < m
        · have him2 : i < T.length := by rw [HTL.out]; exact him
          have hcell := HCT.out i him him2
          have hst := HST.out i hi1 him2
          obtain ⟨y, hy⟩ : ∃ y, (T[i]'him2).toNat = y := ⟨_, rfl⟩
          rw [hy] at hcell hst
          have hcell2 : w.cell? ⟨g, o + (k + i), none⟩ = some (.int .u8 (y : Int)) := by rw [← Nat.add_assoc]; exact hcell
          have hyb := hy ▸ UInt8.toNat_lt (T[i]'him2)
          clear hy
          by_cases hy48 : y = 48
          · have hb : ((y : Int) != 48) = false := by rw [bne_eq_false_iff_eq]; omega
            rw [if_pos hy48] at hst
            have HN := Lib.hid (show r = rsN T (i + 1) by rw [hst]; exact HR.out)
            clear hst hy48
            go_wp2_with fail
            go_round
            case rel => exact ⟨i + 1, r, by omega, by omega, by go_num, rfl, HN.out⟩
            case measure => simp [RowKit.intOf]; omega
          · have hb : ((y : Int) != 48) = true := by rw [bne_iff_ne]; omega
            rw [if_neg hy48] at hst
            have HN := Lib.hid hst.symm
            clear hst hy48
            go_wp2_with fail
            go_round
            case rel => exact ⟨i + 1, 49, by omega, by omega, by go_num, rfl, HN.out⟩
            case measure => simp [RowKit.intOf]; omega
        · obtain rfl : m = i := by omega
          have hr2 : r = 48 ∨ r = 49 := by rw [HR.out]; exact rsN_two T _
          have hE0 := own_empty w 5
          have hb1 := (Below.refl w.heap.size w).alloc (Nat.le_refl _) (.cells #[] 5)
          have hsrc := (HNW.out _ (Below.alloc (Below.refl w.heap.size w) (Nat.le_refl _) (.cells #[] 5))).news
          go_wp2_with (at_builtin; refine wpList_append_own _ rfl _ _ 61 rfl w.heap.size 5 i0 (.int .u8 0) 1 1 Try.underlying61 hi hz0 hz1 hz2 rfl (by decide) _ 0 [] rfl hE0 ⟨g, o + k, none⟩ 1000 (cap - k) (nums .u8 (cod (T.take 1000))) rfl ?c1 hsrc (nums_one _ _) ?c3 ?c4 ?c5 ?_)
          try (case c1 => rw [nums_len, cod_len]; have := HKL.out; omega)
          try (case c3 => unfold maxLen; omega)
          try (case c4 => omega)
          try (case c5 => simp)
          intro v1 w1 hown1 hgrow1 _
          have hO1 : Own .u8 w1 w.heap.size 5 v1 (cod (T.take 1000)) := by
            unfold Own
            rw [cod_len, HKL.out]
            exact hown1
          have hB1 : Below w.heap.size w w1 := hb1.grown hgrow1 (by simp) (fun z e => (World.ownsRow.lt hE0 z e).1)
          have hown2 := hO1.row (n := 1000) (by rw [cod_len]; exact HKL.out)
          have HO1 := Lib.hid hO1
          have hsz1 := hB1.size
          clear hown1 hgrow1 hO1 hsrc hE0 hb1
          go_wp2_with (at_builtin; refine wpList_append_own _ rfl _ _ 61 rfl w.heap.size 5 i0 (.int .u8 0) 1 1 Try.underlying61 hi hz0 hz1 hz2 rfl (by decide) _ 1000 _ rfl (hown2.alloc _) ⟨w1.heap.size, 0, none⟩ 1 1 [.int .u8 (r : Int)] rfl rfl (cell_one_new _ _ _) ?d2 ?d3 ?d4 ?d5 ?_)
          try (case d2 => simp [Value.oneCell'])
          try (case d3 => unfold maxLen; omega)
          try (case d4 => omega)
          try (case d5 => simp; omega)
          intro v2 w2 hown3 hgrow2 _
          have hO2 : Own .u8 w2 w.heap.size 5 v2 (cod (T.take 1000) ++ [r]) := Own.snoc hown3 (by rw [cod_len]; exact HKL.out.symm)
          have hB2 : Below w.heap.size w w2 := (hB1.alloc hsz1 _).grown hgrow2 (by simp; omega) (fun z e => (World.ownsRow.lt HO1.out z e).1)
          obtain ⟨d, hdr⟩ : ∃ d : UInt8, d.toNat = r := hr2.elim (fun h => ⟨48, by rw [h]; rfl⟩) (fun h => ⟨49, by rw [h]; rfl⟩)
          have hcod : cod (T.take 1000) ++ [r] = cod (T.take 1000 ++ [d]) := by rw [← hdr]; simp [cod]
          rw [hcod] at hO2
          have hLl : (T.take 1000 ++ [d]).length = 1001 := by rw [List.length_append, HKL.out]; rfl
          obtain ⟨A2, c2, rfl, hc21, hc22⟩ := hO2.slice
          rw [cod_len, hLl] at hc21
          rw [cod_len, hLl] at hO2 ⊢
          obtain ⟨g2, rfl, hg2⟩ := hO2.addr (by rw [cod_len, hLl]; omega)
          have hcv := conv_rd w2 g2 0 c2 (T.take 1000 ++ [d]) hO2.rd
          rw [hLl] at hcv
          obtain ⟨LB, hLB⟩ : ∃ LB : ByteArray, (⟨(T.take 1000 ++ [d]).toArray⟩ : ByteArray) = LB := ⟨_, rfl⟩
          have hLBl : LB.data.toList = T.take 1000 ++ [d] := by rw [← hLB]
          rw [hLB] at hcv
          have cR := rread_end LB E w2 (by rw [← ba_len, hLBl, hLl]; omega) (isDec_iff.2 ⟨by rw [← ba_len, hLBl, hLl]; omega, by
            rw [hLBl]
            intro c hc
            rcases List.mem_append.1 hc with h | h
            · exact HKd.out c h
            · rw [List.mem_singleton.1 h, hdr]
              omega⟩)
          rw [hLBl] at cR
          have CR := Lib.hid cR
          have HMM := Lib.hid (fun r0 h => HM.out d (by rw [hdr]; exact HR.out) r0 h)
          clear hown2 hown3 hgrow2 HO1 hcod hr2 hdr cR hLBl hLB hO2
          go_wp2_with fail
          refine CR.out.mono ?_
          rintro e w3 ⟨r0, rfl, hr0, hB3⟩
          have hB4 := hB2.trans (hB3.mono hB2.size)
          have HF := Lib.hid (HMM.out r0 hr0.out)
          clear hr0 hB3
          go_wp2_with fail
          go_ret
          exact ⟨r0, rfl, HF, hB4⟩
end Go.Proofs.Ytelhbkfhalpniaa

namespace Go.Proofs.Ytelhbkfhalpniaa
open Go.RowKit Go.Lib

theorem rvalue_any (A : Option Addr) (n cap : Nat) (ds : List UInt8) (x : Int) (w : World) (hn : ds.length = n) (hn9 : n ≤ 100000) (hcap : n ≤ cap) (hcm : cap ≤ 9223372036854775807) (hx0 : -1000000 ≤ x) (hx9 : x ≤ 1000000) (hd : Dec ds) (hra : Rd .u8 w A (cod ds)) :
    Calls Try.prog 38 #[.slice A n cap, .int .i64 x] w (RVal w (2 * (pv ds * 10 ^ x.toNat) * S1074) (10 ^ (-x).toNat)) := by
  have hl := nz_le ds
  by_cases hz : nz ds = n
  · refine rvalue_zero A n cap ds x w hn hcap hcm hra hz _ _ ?_ (Nat.pow_pos (by omega))
    rw [nz_pv, hz, ← hn, List.drop_length]
    show 2 * (0 * _) * S1074 = 0
    rw [Nat.zero_mul, Nat.mul_zero, Nat.zero_mul]
  · obtain ⟨g, o, rfl, -⟩ := hra 0 (by rw [cod_len]; omega)
    obtain ⟨m, hm⟩ : ∃ m, n = nz ds + m := ⟨n - nz ds, by omega⟩
    rcases (by omega : x + (m : Int) < -400 ∨ 400 < x + (m : Int) ∨ (-400 ≤ x + (m : Int) ∧ x + (m : Int) ≤ 400)) with h | h | ⟨h, h'⟩
    · by_cases h1 : m ≤ 1000
      · exact rvalue_low g o n m _ cap ds x w hn rfl hm (by omega) h1 hcap hcm hx0 hx9 hd hra h
      · exact rvalue_low_long g o n m _ cap ds x w hn rfl hm (by omega) (by omega) hcap hcm hx0 hx9 hd hra h
    · by_cases h1 : m ≤ 1000
      · exact rvalue_high g o n m _ cap ds x w hn rfl hm (by omega) h1 hcap hcm hx0 hx9 hd hra h
      · exact rvalue_high_long g o n m _ cap ds x w hn rfl hm (by omega) (by omega) hcap hcm hx0 hx9 hd hra h
    · by_cases h1 : m ≤ 1000
      · exact rvalue_mid g o n m _ cap ds x w hn rfl hm (by omega) h1 hcap hcm hx0 hx9 hd hra h h'
      · exact rvalue_mid_long g o n m _ cap ds x w hn rfl hm (by omega) (by omega) hcap hcm hx0 hx9 hd hra h h'
end Go.Proofs.Ytelhbkfhalpniaa

namespace Go.Proofs.Ytelhbkfhalpniaa
open Go.RowKit Go.Lib Go.Joins

/-- The digits ahead of the point are read as what stands ahead of it. -/
theorem trunc_near {r t : Nat} (h : r < 9218868437227405312) (hn : Near (2 * whQ r * S1074) 1 t) : t = truncR r := by
  by_cases he : 0 ≤ expF r
  · have ht : truncR r = r := by rw [truncR, if_pos he]
    have hv := whQ_V ((trunc_wh h).1 ht)
    rw [Nat.mul_assoc, ← hv] at hn
    rw [ht]
    exact hn.uniq (by omega) (by omega) rfl (Near.self h)
  · have hq : whQ r = manF r / 2 ^ (-expF r).toNat := by
      unfold whQ amN amD
      rw [show (expF r).toNat = 0 by omega, Nat.pow_zero, Nat.mul_one]
    rw [truncR, if_neg he, ← hq]
    have hml := manF_lt (r := r)
    exact near_fw (m := whQ r) (D := 1) (by rw [hq]; exact Nat.lt_of_le_of_lt (Nat.div_le_self _ _) hml) (by omega) (by omega) hn
theorem wh_of_dig {wn T p N D : Nat} (hp : p < T) (hD : 0 < D) (h : (wn * T + p) * D = N * T) : wn = N / D := by
  have hT : 0 < T := by omega
  have h1 : wn * D ≤ N := by
    refine Nat.le_of_mul_le_mul_right (c := T) ?_ hT
    rw [← h, Nat.add_mul, Nat.mul_right_comm]
    exact Nat.le_add_right _ _
  have h2 : N < (wn + 1) * D := by
    refine Nat.lt_of_mul_lt_mul_right (a := T) ?_
    rw [← h]
    have h3 : wn * T + p < (wn + 1) * T := by rw [Nat.add_mul, Nat.one_mul]; omega
    have h4 := Nat.mul_lt_mul_of_pos_right h3 hD
    rwa [Nat.mul_right_comm] at h4
  exact (Nat.div_eq_of_lt_le h1 h2).symm
/-- '[]byte(s)', with its room. -/
theorem hbytes_new (W : World) (s : ByteArray) (hs : s.size ≤ 1000000) : ∃ cap row mk, s.size ≤ cap ∧ cap ≤ 9223372036854775807 ∧
    (convert 9 61 (.string s)).run Try.prog W = .ok (.slice (some ⟨W.heap.size, 0, none⟩) s.size cap) (W.drew.alloc (.cells row 5 mk)) ∧
    (∀ j, j < s.size → row[j]? = some (.int .u8 (s.data.toList.getD j 0).toNat)) := by
  refine ⟨_, _, _, ?_, ?_, run_bytes_of_string (P := Try.prog) W 9 61 5 s Try.underlying9 Try.underlying61 Try.underlying5, ?_⟩
  · exact grownCap_ge _ _ _ _
  · have := grownCap_le_maxLen W s.size 0 5 (by unfold maxLen; omega)
    unfold maxLen at this
    omega
  · intro j hj
    have h : j < s.data.size := hj
    rw [bytesRow_at s _ j h]
    rw [List.getD_eq_getElem?_getD, Array.getElem?_toList, Array.getElem?_eq_getElem h]
    rfl
theorem truncR_mag {b : Nat} (h : mag b < 9218868437227405312) : truncR (mag b) < 9218868437227405312 := truncR_lt h
set_option maxRecDepth 100000 in
set_option maxHeartbeats 2000000 in
theorem rtrunc_any (b : Nat) (w : World) (hb : b < 18446744073709551616) (h : mag b < 9218868437227405312) :
    Calls Try.prog 34 #[.float .f64 b] w fun e w' => e = .returned (.float .f64 (sgn b + truncR (mag b))) ∧ Below w.heap.size w w' := by
  have CP := Lib.hid (fun W => rparts_yes b W hb h)
  have CD := Lib.hid (fun W => rdigits_any b W hb h)
  have CV := Lib.hid (fun (g cap : Nat) (l : List UInt8) (W : World) (hl : l.length ≤ 100000) (hc : l.length ≤ cap) (hcm : cap ≤ 9223372036854775807) (hd : Dec l) (hr : Rd .u8 W (some ⟨g, 0, none⟩) (cod l)) => rvalue_any (some ⟨g, 0, none⟩) l.length cap l 0 W rfl hl hc hcm (by omega) (by omega) hd hr)
  have b1 := fun W => run_f64bits b W
  have b2 := fun (x : Nat) W => run_f64bits x W
  have b3 := fun (x : Nat) W => run_f64from x W
  have ht := truncR_mag h
  have hs : ((b : Int)).tdiv 9223372036854775808 = ((b / 9223372036854775808 : Nat) : Int) := by rw [Int.tdiv_eq_ediv_of_nonneg (by omega)]; omega
  have hs1 : IntKind.u64.wrap ((b / 9223372036854775808 : Nat) : Int) = ((b / 9223372036854775808 : Nat) : Int) := by rw [IntKind.wrap_u64]; omega
  have hs2 : IntKind.u64.wrap (((b / 9223372036854775808 : Nat) : Int) * 9223372036854775808) = (sgn b : Int) := by rw [IntKind.wrap_u64]; unfold sgn; omega
  have hs4 : sgn b ≤ 9223372036854775808 := by unfold sgn; omega
  have hs3 : IntKind.u64.wrap ((truncR (mag b) : Int) + (sgn b : Int)) = ((sgn b + truncR (mag b) : Nat) : Int) := by rw [IntKind.wrap_u64]; omega
  have hT := Lib.hid (fun (t : Nat) (hn : Near (2 * whQ (mag b) * S1074) 1 t) => trunc_near h hn)
  have hD := Lib.hid (show 0 < amD (mag b) from amD_pos _)
  obtain ⟨q, hq⟩ : ∃ q, b / 9223372036854775808 = q := ⟨_, rfl⟩
  obtain ⟨s, hsg⟩ : ∃ s, sgn b = s := ⟨_, rfl⟩
  obtain ⟨m, hm⟩ : ∃ m, mag b = m := ⟨_, rfl⟩
  rw [hq] at hs hs1 hs2
  rw [hsg] at hs2 hs3 hs4 ⊢
  rw [hm] at CP CD hT hD hs3 ht ⊢
  obtain ⟨t, htt⟩ : ∃ t, truncR m = t := ⟨_, rfl⟩
  rw [htt] at hT hs3 ht ⊢
  obtain ⟨z, hz⟩ : ∃ z, s + t = z := ⟨_, rfl⟩
  rw [hz] at hs3 ⊢
  clear hq hsg hm htt ht h hs4 hz
  go_enter Try.func34, Try.ntmps34
  go_wp2_with fail
  refine (CP.out _).mono ?_
  rintro e w' ⟨rfl, rfl⟩
  go_wp2_with fail
  refine (CD.out _).mono ?_
  rintro e w1 ⟨S1, S2, wn, rfl, h1, h2, l1, l2, h3, hB⟩
  have hw : wn = whQ m := wh_of_dig (pv_lt h2.out) hD.out (by rw [ba_len]; exact h3.out)
  obtain ⟨cap, row, mk, hcap, hcm, hcv, hrow⟩ := hbytes_new w1 S1 (by omega)
  have hl : S1.data.toList.length = S1.size := ba_len S1
  have hRd : Rd .u8 (w1.drew.alloc (.cells row 5 mk)) (some ⟨w1.heap.size, 0, none⟩) (cod S1.data.toList) := fun j hj => by
    refine ⟨w1.heap.size, 0, rfl, ?_⟩
    rw [cod_len, hl] at hj
    have hr := hrow j hj
    rw [List.getD_eq_getElem?_getD, List.getElem?_eq_getElem (by rw [hl]; exact hj)] at hr
    rw [Nat.zero_add, cod_get (by rw [hl]; exact hj)]
    exact (World.cell?_alloc_mark w1.drew row 5 mk j).trans hr
  have hb0 : Below w.heap.size w (w1.drew.alloc (.cells row 5 mk)) := (hB.drew).alloc hB.size _
  obtain ⟨W2, hW2⟩ : ∃ W2, w1.drew.alloc (.cells row 5 mk) = W2 := ⟨_, rfl⟩
  obtain ⟨G, hG⟩ : ∃ G, w1.heap.size = G := ⟨_, rfl⟩
  obtain ⟨n, hn⟩ : ∃ n, S1.size = n := ⟨_, rfl⟩
  rw [hW2] at hcv hRd hb0
  rw [hG] at hcv hRd
  rw [hn] at hcv hcap l1 hl
  have CV2 := CV.out G cap S1.data.toList W2 (by omega) (by omega) hcm (by rw [h1.out]; exact dec_decs wn) hRd
  rw [hl, h1.out, pv_decs, hw, show (10 : Nat) ^ Int.toNat 0 = 1 from rfl, Nat.mul_one, show (10 : Nat) ^ (-0 : Int).toNat = 1 from rfl] at CV2
  have CV2 := Lib.hid CV2
  have HB0 := Lib.hid hb0
  clear hrow hRd hW2 hG hn hb0 hw hl CV h1 h2 h3 l1 l2 hcap hcm hB
  go_wp2_with fail
  refine CV2.out.mono ?_
  rintro e w3 ⟨t', rfl, hn, hB⟩
  obtain rfl : t' = t := hT.out t' hn.out
  have hB := Lib.hid (HB0.out.trans (hB.mono HB0.out.size))
  clear hn
  go_wp2_with fail
  go_ret
  exact ⟨rfl, hB.out⟩
theorem order_lt53 {b : Nat} (h : b < 9218868437227405312) : FloatKind.f64.format.order b 4845873199050653696 = some (compare (b : Int) (4845873199050653696 : Int)) := order_V h (by omega)
set_option maxRecDepth 100000 in
set_option maxHeartbeats 1000000 in
theorem rword_yes (b : Nat) (w : World) (hb : b < 18446744073709551616) (h : okW b 4845873199050653695 = true) :
    Calls Try.prog 31 #[.float .f64 b] w fun e w' => e = .returned (.tuple #[.int .i64 (qW b : Int), .bool true]) ∧ Below w.heap.size w w' := by
  rw [← fw_top] at h
  obtain ⟨hq, hp, hw⟩ := okW_le (by omega) h
  have hm : mag b < 9218868437227405312 := by unfold mag; omega
  have CT := rtrunc_any b w hb hm
  have ht : truncR (mag b) = mag b := (trunc_wh hm).2 hw
  rw [ht, sgn_mag b hb] at CT
  have hz : whZ b = (qW b : Int) := by
    unfold whZ qW
    rcases hp with h1 | h1
    · rw [if_pos (by unfold sgn; omega)]
    · subst h1
      have : qW 9223372036854775808 = 0 := by
        have : mag 9223372036854775808 = fw 0 := by decide
        unfold qW
        rw [this]
        exact (wh_fw (by omega)).1
      unfold qW at this
      rw [this]
      split <;> rfl
  have hi := int_of_wh (b := b) hm (by unfold qW at hq; omega)
  rw [hz] at hi
  have cv : ∀ W, (convert 26 3 (.float .f64 b)).run Try.prog W = .ok (.int .i64 (qW b : Int)) W := fun W => run_convert_float_int W 26 3 .f64 .i64 _ _ (by rw [Try.underlying26]; rfl) Try.underlying3 hi
  have o1 : FloatKind.f64.format.order b 0 = some .gt ∨ FloatKind.f64.format.order b 0 = some .eq := by
    rcases hp with h1 | h1
    · exact order_some h1
    · subst h1; right; exact ord0_mz
  have o2 : FloatKind.f64.format.order b 4845873199050653696 = some .lt := by
    rcases hp with h1 | h1
    · rw [order_lt53 h1, Int.compare_eq_lt.2]
      unfold okW at h
      have := of_decide_eq_true (Bool.and_eq_true_iff.1 h).1
      rw [fw_top] at this
      omega
    · subst h1; exact ordmz_pos (by omega) (by omega)
  have o3 : (FloatKind.f64.format.order b b != some .eq) = false := nan_no (by omega)
  obtain ⟨q, hqq⟩ : ∃ q, qW b = q := ⟨_, rfl⟩
  rw [hqq] at cv ⊢
  have CT := Lib.hid CT
  clear h hq hp hw hm ht hz hi hqq
  rcases o1 with o1 | o1 <;>
    · go_enter Try.func31, Try.ntmps31
      go_wp2_with fail
      refine CT.out.mono ?_
      rintro e w' ⟨rfl, hB⟩
      go_wp2_with fail
      go_ret2
      exact ⟨rfl, hB⟩
set_option maxRecDepth 100000 in
set_option maxHeartbeats 1000000 in
theorem rword_no (b : Nat) (w : World) (hb : b < 18446744073709551616) (h : okW b 4845873199050653695 = false) :
    Calls Try.prog 31 #[.float .f64 b] w fun e w' => e = .returned (.tuple #[.int .i64 0, .bool false]) ∧ Below w.heap.size w w' := by
  by_cases h1 : b < 9218868437227405312
  · have o1 := order_some h1
    have o2 := order_lt53 h1
    by_cases hl : b ≤ 4845873199050653695
    · have hw : isWh b = false := by
        unfold okW at h
        rw [decide_eq_true (Or.inl hl), Bool.true_and, mag_no h1] at h
        exact h
      have CT := rtrunc_any b w hb (by rw [mag_no h1]; exact h1)
      rw [mag_no h1, show sgn b = 0 by unfold sgn; omega, Nat.zero_add] at CT
      have hne : ¬ truncR b = b := fun e => by rw [(trunc_wh h1).1 e] at hw; cases hw
      have o3 : (FloatKind.f64.format.order (truncR b) b == some .eq) = false := by
        rw [order_self_eq (truncR_lt h1) h1]
        exact decide_eq_false hne
      rw [Int.compare_eq_lt.2 (by omega)] at o2
      obtain ⟨t, ht⟩ : ∃ t, truncR b = t := ⟨_, rfl⟩
      rw [ht] at CT o3
      have o4 : (FloatKind.f64.format.order t b != some .eq) = true := by rw [bne, o3]; rfl
      have CT := Lib.hid CT
      clear hw hne ht hl h h1 o3
      rcases o1 with o1 | o1 <;>
        · go_enter Try.func31, Try.ntmps31
          go_wp2_with fail
          refine CT.out.mono ?_
          rintro e w' ⟨rfl, hB⟩
          go_wp2_with fail
          go_ret2
          exact ⟨rfl, hB⟩
    · have o5 : (FloatKind.f64.format.order b 4845873199050653696 == some .lt) = false := by
        rw [o2]
        rcases (by omega : b = 4845873199050653696 ∨ 4845873199050653696 < b) with h2 | h2
        · rw [Int.compare_eq_eq.2 (by omega)]; rfl
        · rw [Int.compare_eq_gt.2 (by omega)]; rfl
      clear o2 h hl h1
      rcases o1 with o1 | o1 <;>
        · go_enter Try.func31, Try.ntmps31
          go_wp2_with fail
          go_ret2
          exact ⟨rfl, Below.refl _ _⟩
  · by_cases h2 : b = 9223372036854775808
    · subst h2
      unfold okW at h
      rw [decide_eq_true (Or.inr rfl), Bool.true_and] at h
      have h0 : isWh (mag 9223372036854775808) = true := isWh_zero
      rw [h0] at h
      cases h
    · rcases Nat.lt_or_ge b 9223372036854775808 with h3 | h3
      · rcases order_far' (B := 4845873199050653696) (by omega) h3 (by omega) with ⟨o1, o2⟩ | o1
        · clear h1 h2 h3 h
          go_enter Try.func31, Try.ntmps31
          go_wp2_with fail
          go_ret2
          exact ⟨rfl, Below.refl _ _⟩
        · clear h1 h2 h3 h
          go_enter Try.func31, Try.ntmps31
          go_wp2_with fail
          go_ret2
          exact ⟨rfl, Below.refl _ _⟩
      · rcases order_bad hb (by omega) with o1 | o1 <;>
          · clear h1 h2 h3 h
            go_enter Try.func31, Try.ntmps31
            go_wp2_with fail
            go_ret2
            exact ⟨rfl, Below.refl _ _⟩
end Go.Proofs.Ytelhbkfhalpniaa

namespace Go.Proofs.Ytelhbkfhalpniaa
open Go.RowKit Go.Lib Go.Joins

theorem okW_52 (y : Nat) : okW y 4632515166703976448 = (okW y 4845873199050653695 && decide (qW y ≤ 52)) := by
  cases h : okW y 4632515166703976448 with
  | true =>
    rw [← fw_52] at h
    obtain ⟨h1, h2, h3⟩ := okW_le (by omega) h
    rw [decide_eq_true h1, Bool.and_true]
    unfold okW at h ⊢
    have h4 := of_decide_eq_true (Bool.and_eq_true_iff.1 h).1
    rw [fw_52] at h4
    rw [h3, decide_eq_true (by omega)]
    rfl
  | false =>
    cases h1 : okW y 4845873199050653695 with
    | false => rfl
    | true =>
      rw [Bool.true_and]
      symm
      refine decide_eq_false fun hq => ?_
      have h5 := h1
      rw [← fw_top] at h5
      obtain ⟨-, h2, h3⟩ := okW_le (by omega) h5
      unfold okW at h
      rw [h3, Bool.and_true] at h
      have h4 := of_decide_eq_false h
      have hv := whQ_V h3
      have hlt : fw 52 < mag y := by
        rw [fw_52]
        rcases h2 with h2 | h2
        · rw [mag_no h2]; omega
        · omega
      have := V_lt hlt
      rw [fw_V (by omega), hv] at this
      have := Nat.lt_of_mul_lt_mul_right this
      unfold qW at hq
      omega
theorem top_digit : ∀ i, i < 53 → 9007199254740991 / 2 ^ i % 2 = 1 := by decide +kernel
theorem dig_and (a b i : Nat) : (a &&& b) / 2 ^ i % 2 = (a / 2 ^ i % 2) * (b / 2 ^ i % 2) := by rw [Nat.and_div_two_pow, bit_and]
theorem dig_or (a b i : Nat) : (a ||| b) / 2 ^ i % 2 = (a / 2 ^ i % 2) + (b / 2 ^ i % 2) - (a / 2 ^ i % 2) * (b / 2 ^ i % 2) := by rw [Nat.or_div_two_pow, bit_or]
theorem dig_xor (a b i : Nat) : (a ^^^ b) / 2 ^ i % 2 = (a / 2 ^ i % 2 + b / 2 ^ i % 2) % 2 := by rw [Nat.xor_div_two_pow, bit_xor]
theorem dig_not {a i : Nat} (ha : a < 9007199254740992) (hi : i < 53) : (9007199254740991 - a) / 2 ^ i % 2 = (a / 2 ^ i % 2 + 1) % 2 := by
  rw [← top_xor ha, dig_xor, top_digit i hi]
theorem dig_step (T i : Nat) : T / 2 ^ i = 2 * (T / 2 ^ (i + 1)) + T / 2 ^ i % 2 := by
  rw [Nat.pow_succ, ← Nat.div_div_eq_div_mul]
  omega
theorem pow_le52 {i : Nat} (h : i ≤ 52) : 2 ^ i ≤ 4503599627370496 := Nat.pow_le_pow_right (n := 2) (by omega) h
theorem rword_some (y : Nat) (w : World) (hy : y < 18446744073709551616) :
    Calls Try.prog 31 #[.float .f64 y] w fun e w' => ∃ (z : Int) (t : Bool), e = .returned (.tuple #[.int .i64 z, .bool t]) ∧ Below w.heap.size w w' := by
  cases h : okW y 4845873199050653695 with
  | true => exact (rword_yes y w hy h).mono fun e w' ⟨h1, h2⟩ => ⟨_, _, h1, h2⟩
  | false => exact (rword_no y w hy h).mono fun e w' ⟨h1, h2⟩ => ⟨_, _, h1, h2⟩
set_option maxRecDepth 100000 in
set_option maxHeartbeats 2000000 in
theorem rbits_1 (x y : Nat) (w : World) (hx : x < 18446744073709551616) (hy : y < 18446744073709551616) (h1 : okW x 4845873199050653695 = true) (h2 : okW y 4845873199050653695 = true) :
    Calls Try.prog 22 #[.int .i64 1, .float .f64 x, .float .f64 y] w fun e w' => e = .returned (.tuple #[.float .f64 (fw (qW x &&& qW y)), .int .i64 0]) ∧ Below w.heap.size w w' := by
  have C1 := Lib.hid (fun W => rword_yes x W hx h1)
  have C2 := Lib.hid (fun W => rword_yes y W hy h2)
  have q1 := (okW_le (b := x) (Q := 9007199254740991) (by omega) (by rw [fw_top]; exact h1)).1
  have q2 := (okW_le (b := y) (Q := 9007199254740991) (by omega) (by rw [fw_top]; exact h2)).1
  obtain ⟨a, ha⟩ : ∃ a, qW x = a := ⟨_, rfl⟩
  obtain ⟨b, hb⟩ : ∃ b, qW y = b := ⟨_, rfl⟩
  rw [ha] at C1 q1 ⊢
  rw [hb] at C2 q2 ⊢
  have hT : a &&& b < 9007199254740992 := land_lt (by omega)
  have hd := Lib.hid (dig_and a b)
  obtain ⟨T, hTT⟩ : ∃ T, a &&& b = T := ⟨_, rfl⟩
  rw [hTT] at hT ⊢
  rw [hTT] at hd
  have HT := Lib.hid hT
  clear hTT ha hb h2 h1 hT
  go_enter Try.func22, Try.ntmps22
  go_wp2_with fail
  refine (C1.out _).mono ?_
  rintro e w1 ⟨rfl, hB1⟩
  go_wp2_with fail
  refine (C2.out _).mono ?_
  rintro e w2 ⟨rfl, hB2⟩
  have hB := hB1.trans (hB2.mono hB1.size)
  clear hB1 hB2
  go_wp2_with fail
  go_loopw [14, 15, 16, 17, 18] (fun ov iv _ _ _ wr => ∃ k : Nat, k ≤ 53 ∧ iv = .int .i64 ((k : Int) - 1) ∧ ov = .int .i64 ((T / 2 ^ k : Nat) : Int) ∧ Hid (Below w.heap.size w wr)) (fun _ iv _ _ _ _ => (RowKit.intOf iv + 1).toNat)
  case atStart =>
    refine ⟨53, by omega, rfl, ?_, Lib.hid hB⟩
    rw [Nat.div_eq_of_lt (show T < 2 ^ 53 from HT.out)]
    rfl
  case round =>
    clear hB
    obtain ⟨k, hk, rfl, rfl, HB⟩ := hrel
    rcases Nat.eq_zero_or_pos k with h0 | h0
    · subst h0
      rw [Nat.pow_zero, Nat.div_one]
      have hf : floatOfInt .f64 (T : Int) = fw T := float_nat HT.out
      go_wp2_with fail
      go_ret2
      exact ⟨rfl, HB.out⟩
    · obtain ⟨i, rfl⟩ : ∃ i, k = i + 1 := ⟨k - 1, by omega⟩
      have e1 : (((i + 1 : Nat) : Int) - 1) = (i : Int) := by omega
      rw [e1]
      have hp52 := pow_le52 (i := i) (by omega)
      have hpp : 0 < 2 ^ i := Nat.pow_pos (by omega)
      have hdd := hd.out i
      have hst := dig_step T i
      obtain ⟨P, hP⟩ : ∃ P, 2 ^ i = P := ⟨_, rfl⟩
      have hPi : (2 : Int) ^ i = (P : Int) := by rw [← hP, Int.natCast_pow]; rfl
      rw [hP] at hp52 hpp hdd hst
      obtain ⟨A, hA⟩ : ∃ A, a / P = A := ⟨_, rfl⟩
      obtain ⟨B, hBB⟩ : ∃ B, b / P = B := ⟨_, rfl⟩
      obtain ⟨R, hR⟩ : ∃ R, T / 2 ^ (i + 1) = R := ⟨_, rfl⟩
      obtain ⟨S, hS⟩ : ∃ S, T / P = S := ⟨_, rfl⟩
      have hA9 : A ≤ 9007199254740991 := by rw [← hA]; exact Nat.le_trans (Nat.div_le_self _ _) q1
      have hB9 : B ≤ 9007199254740991 := by rw [← hBB]; exact Nat.le_trans (Nat.div_le_self _ _) q2
      have hR9 : R ≤ 9007199254740991 := by rw [← hR]; exact Nat.le_trans (Nat.div_le_self _ _) (by have := HT.out; omega)
      rw [hA, hBB, hS] at hdd
      rw [hR, hS] at hst
      rw [hR]
      have i0 : ¬ (i : Int) < 0 := by omega
      have i1 : min i 64 = i := by omega
      have w1 : IntKind.i64.wrap (P : Int) = (P : Int) := by rw [IntKind.wrap_i64]; omega
      have p0 : ((P : Int) == 0) = false := by rw [beq_eq_false_iff_ne]; omega
      have d1 : (a : Int).tdiv (P : Int) = (A : Int) := by rw [Int.tdiv_eq_ediv_of_nonneg (by omega), ← hA, Int.natCast_ediv]
      have w2 : IntKind.i64.wrap (A : Int) = (A : Int) := by rw [IntKind.wrap_i64]; omega
      have m1 : (A : Int).tmod 2 = ((A % 2 : Nat) : Int) := by rw [Int.tmod_eq_emod_of_nonneg (by omega)]; omega
      have d2 : (b : Int).tdiv (P : Int) = (B : Int) := by rw [Int.tdiv_eq_ediv_of_nonneg (by omega), ← hBB, Int.natCast_ediv]
      have w3 : IntKind.i64.wrap (B : Int) = (B : Int) := by rw [IntKind.wrap_i64]; omega
      have m2 : (B : Int).tmod 2 = ((B % 2 : Nat) : Int) := by rw [Int.tmod_eq_emod_of_nonneg (by omega)]; omega
      have w4 : IntKind.i64.wrap (2 * (R : Int)) = 2 * (R : Int) := by rw [IntKind.wrap_i64]; omega
      have w5 : IntKind.i64.wrap (2 * (R : Int) + 1) = 2 * (R : Int) + 1 := by rw [IntKind.wrap_i64]; omega
      have hs0 := Lib.hid hS
      have hp0 := Lib.hid hP
      clear hA hBB hB9 hR hS hP hA9 hR9
      rcases Nat.mod_two_eq_zero_or_one A with x1 | x1 <;> rcases Nat.mod_two_eq_zero_or_one B with y1 | y1 <;>
        · rw [x1] at m1 hdd
          rw [y1] at m2 hdd
          have hst := Lib.hid hst
          have hdd := Lib.hid hdd
          go_wp2_with fail
          go_quiet (fail)
          go_wp2_with fail
          go_roundw
          case rel =>
            refine ⟨i, by omega, by go_num, ?_, Lib.hid (HB.out.trans (below_draws _ _ _))⟩
            rw [hp0.out, hs0.out]
            have h1 := hst.out
            have h2 := hdd.out
            congr 1
            omega
          case measure => simp [RowKit.intOf]
set_option maxRecDepth 100000 in
set_option maxHeartbeats 2000000 in
theorem rbits_2 (x y : Nat) (w : World) (hx : x < 18446744073709551616) (hy : y < 18446744073709551616) (h1 : okW x 4845873199050653695 = true) (h2 : okW y 4845873199050653695 = true) :
    Calls Try.prog 22 #[.int .i64 2, .float .f64 x, .float .f64 y] w fun e w' => e = .returned (.tuple #[.float .f64 (fw (qW x ||| qW y)), .int .i64 0]) ∧ Below w.heap.size w w' := by
  have C1 := Lib.hid (fun W => rword_yes x W hx h1)
  have C2 := Lib.hid (fun W => rword_yes y W hy h2)
  have q1 := (okW_le (b := x) (Q := 9007199254740991) (by omega) (by rw [fw_top]; exact h1)).1
  have q2 := (okW_le (b := y) (Q := 9007199254740991) (by omega) (by rw [fw_top]; exact h2)).1
  obtain ⟨a, ha⟩ : ∃ a, qW x = a := ⟨_, rfl⟩
  obtain ⟨b, hb⟩ : ∃ b, qW y = b := ⟨_, rfl⟩
  rw [ha] at C1 q1 ⊢
  rw [hb] at C2 q2 ⊢
  have hT : a ||| b < 9007199254740992 := lor_lt (by omega) (by omega)
  have hd := Lib.hid (dig_or a b)
  obtain ⟨T, hTT⟩ : ∃ T, a ||| b = T := ⟨_, rfl⟩
  rw [hTT] at hT ⊢
  rw [hTT] at hd
  have HT := Lib.hid hT
  clear hTT ha hb h2 h1 hT
  go_enter Try.func22, Try.ntmps22
  go_wp2_with fail
  refine (C1.out _).mono ?_
  rintro e w1 ⟨rfl, hB1⟩
  go_wp2_with fail
  refine (C2.out _).mono ?_
  rintro e w2 ⟨rfl, hB2⟩
  have hB := hB1.trans (hB2.mono hB1.size)
  clear hB1 hB2
  go_wp2_with fail
  go_loopw [14, 15, 16, 17, 18] (fun ov iv _ _ _ wr => ∃ k : Nat, k ≤ 53 ∧ iv = .int .i64 ((k : Int) - 1) ∧ ov = .int .i64 ((T / 2 ^ k : Nat) : Int) ∧ Hid (Below w.heap.size w wr)) (fun _ iv _ _ _ _ => (RowKit.intOf iv + 1).toNat)
  case atStart =>
    refine ⟨53, by omega, rfl, ?_, Lib.hid hB⟩
    rw [Nat.div_eq_of_lt (show T < 2 ^ 53 from HT.out)]
    rfl
  case round =>
    clear hB
    obtain ⟨k, hk, rfl, rfl, HB⟩ := hrel
    rcases Nat.eq_zero_or_pos k with h0 | h0
    · subst h0
      rw [Nat.pow_zero, Nat.div_one]
      have hf : floatOfInt .f64 (T : Int) = fw T := float_nat HT.out
      go_wp2_with fail
      go_ret2
      exact ⟨rfl, HB.out⟩
    · obtain ⟨i, rfl⟩ : ∃ i, k = i + 1 := ⟨k - 1, by omega⟩
      have e1 : (((i + 1 : Nat) : Int) - 1) = (i : Int) := by omega
      rw [e1]
      have hp52 := pow_le52 (i := i) (by omega)
      have hpp : 0 < 2 ^ i := Nat.pow_pos (by omega)
      have hdd := hd.out i
      have hst := dig_step T i
      obtain ⟨P, hP⟩ : ∃ P, 2 ^ i = P := ⟨_, rfl⟩
      have hPi : (2 : Int) ^ i = (P : Int) := by rw [← hP, Int.natCast_pow]; rfl
      rw [hP] at hp52 hpp hdd hst
      obtain ⟨A, hA⟩ : ∃ A, a / P = A := ⟨_, rfl⟩
      obtain ⟨B, hBB⟩ : ∃ B, b / P = B := ⟨_, rfl⟩
      obtain ⟨R, hR⟩ : ∃ R, T / 2 ^ (i + 1) = R := ⟨_, rfl⟩
      obtain ⟨S, hS⟩ : ∃ S, T / P = S := ⟨_, rfl⟩
      have hA9 : A ≤ 9007199254740991 := by rw [← hA]; exact Nat.le_trans (Nat.div_le_self _ _) q1
      have hB9 : B ≤ 9007199254740991 := by rw [← hBB]; exact Nat.le_trans (Nat.div_le_self _ _) q2
      have hR9 : R ≤ 9007199254740991 := by rw [← hR]; exact Nat.le_trans (Nat.div_le_self _ _) (by have := HT.out; omega)
      rw [hA, hBB, hS] at hdd
      rw [hR, hS] at hst
      rw [hR]
      have i0 : ¬ (i : Int) < 0 := by omega
      have i1 : min i 64 = i := by omega
      have w1 : IntKind.i64.wrap (P : Int) = (P : Int) := by rw [IntKind.wrap_i64]; omega
      have p0 : ((P : Int) == 0) = false := by rw [beq_eq_false_iff_ne]; omega
      have d1 : (a : Int).tdiv (P : Int) = (A : Int) := by rw [Int.tdiv_eq_ediv_of_nonneg (by omega), ← hA, Int.natCast_ediv]
      have w2 : IntKind.i64.wrap (A : Int) = (A : Int) := by rw [IntKind.wrap_i64]; omega
      have m1 : (A : Int).tmod 2 = ((A % 2 : Nat) : Int) := by rw [Int.tmod_eq_emod_of_nonneg (by omega)]; omega
      have d2 : (b : Int).tdiv (P : Int) = (B : Int) := by rw [Int.tdiv_eq_ediv_of_nonneg (by omega), ← hBB, Int.natCast_ediv]
      have w3 : IntKind.i64.wrap (B : Int) = (B : Int) := by rw [IntKind.wrap_i64]; omega
      have m2 : (B : Int).tmod 2 = ((B % 2 : Nat) : Int) := by rw [Int.tmod_eq_emod_of_nonneg (by omega)]; omega
      have w4 : IntKind.i64.wrap (2 * (R : Int)) = 2 * (R : Int) := by rw [IntKind.wrap_i64]; omega
      have w5 : IntKind.i64.wrap (2 * (R : Int) + 1) = 2 * (R : Int) + 1 := by rw [IntKind.wrap_i64]; omega
      have hs0 := Lib.hid hS
      have hp0 := Lib.hid hP
      clear hA hBB hB9 hR hS hP hA9 hR9
      rcases Nat.mod_two_eq_zero_or_one A with x1 | x1 <;> rcases Nat.mod_two_eq_zero_or_one B with y1 | y1 <;>
        · rw [x1] at m1 hdd
          rw [y1] at m2 hdd
          have hst := Lib.hid hst
          have hdd := Lib.hid hdd
          go_wp2_with fail
          go_quiet (fail)
          go_wp2_with fail
          go_roundw
          case rel =>
            refine ⟨i, by omega, by go_num, ?_, Lib.hid (HB.out.trans (below_draws _ _ _))⟩
            rw [hp0.out, hs0.out]
            have h1 := hst.out
            have h2 := hdd.out
            congr 1
            omega
          case measure => simp [RowKit.intOf]
set_option maxRecDepth 100000 in
set_option maxHeartbeats 2000000 in
theorem rbits_3 (x y : Nat) (w : World) (hx : x < 18446744073709551616) (hy : y < 18446744073709551616) (h1 : okW x 4845873199050653695 = true) (h2 : okW y 4845873199050653695 = true) :
    Calls Try.prog 22 #[.int .i64 3, .float .f64 x, .float .f64 y] w fun e w' => e = .returned (.tuple #[.float .f64 (fw (qW x ^^^ qW y)), .int .i64 0]) ∧ Below w.heap.size w w' := by
  have C1 := Lib.hid (fun W => rword_yes x W hx h1)
  have C2 := Lib.hid (fun W => rword_yes y W hy h2)
  have q1 := (okW_le (b := x) (Q := 9007199254740991) (by omega) (by rw [fw_top]; exact h1)).1
  have q2 := (okW_le (b := y) (Q := 9007199254740991) (by omega) (by rw [fw_top]; exact h2)).1
  obtain ⟨a, ha⟩ : ∃ a, qW x = a := ⟨_, rfl⟩
  obtain ⟨b, hb⟩ : ∃ b, qW y = b := ⟨_, rfl⟩
  rw [ha] at C1 q1 ⊢
  rw [hb] at C2 q2 ⊢
  have hT : a ^^^ b < 9007199254740992 := lxor_lt (by omega) (by omega)
  have hd := Lib.hid (dig_xor a b)
  obtain ⟨T, hTT⟩ : ∃ T, a ^^^ b = T := ⟨_, rfl⟩
  rw [hTT] at hT ⊢
  rw [hTT] at hd
  have HT := Lib.hid hT
  clear hTT ha hb h2 h1 hT
  go_enter Try.func22, Try.ntmps22
  go_wp2_with fail
  refine (C1.out _).mono ?_
  rintro e w1 ⟨rfl, hB1⟩
  go_wp2_with fail
  refine (C2.out _).mono ?_
  rintro e w2 ⟨rfl, hB2⟩
  have hB := hB1.trans (hB2.mono hB1.size)
  clear hB1 hB2
  go_wp2_with fail
  go_loopw [14, 15, 16, 17, 18] (fun ov iv _ _ _ wr => ∃ k : Nat, k ≤ 53 ∧ iv = .int .i64 ((k : Int) - 1) ∧ ov = .int .i64 ((T / 2 ^ k : Nat) : Int) ∧ Hid (Below w.heap.size w wr)) (fun _ iv _ _ _ _ => (RowKit.intOf iv + 1).toNat)
  case atStart =>
    refine ⟨53, by omega, rfl, ?_, Lib.hid hB⟩
    rw [Nat.div_eq_of_lt (show T < 2 ^ 53 from HT.out)]
    rfl
  case round =>
    clear hB
    obtain ⟨k, hk, rfl, rfl, HB⟩ := hrel
    rcases Nat.eq_zero_or_pos k with h0 | h0
    · subst h0
      rw [Nat.pow_zero, Nat.div_one]
      have hf : floatOfInt .f64 (T : Int) = fw T := float_nat HT.out
      go_wp2_with fail
      go_ret2
      exact ⟨rfl, HB.out⟩
    · obtain ⟨i, rfl⟩ : ∃ i, k = i + 1 := ⟨k - 1, by omega⟩
      have e1 : (((i + 1 : Nat) : Int) - 1) = (i : Int) := by omega
      rw [e1]
      have hp52 := pow_le52 (i := i) (by omega)
      have hpp : 0 < 2 ^ i := Nat.pow_pos (by omega)
      have hdd := hd.out i
      have hst := dig_step T i
      obtain ⟨P, hP⟩ : ∃ P, 2 ^ i = P := ⟨_, rfl⟩
      have hPi : (2 : Int) ^ i = (P : Int) := by rw [← hP, Int.natCast_pow]; rfl
      rw [hP] at hp52 hpp hdd hst
      obtain ⟨A, hA⟩ : ∃ A, a / P = A := ⟨_, rfl⟩
      obtain ⟨B, hBB⟩ : ∃ B, b / P = B := ⟨_, rfl⟩
      obtain ⟨R, hR⟩ : ∃ R, T / 2 ^ (i + 1) = R := ⟨_, rfl⟩
      obtain ⟨S, hS⟩ : ∃ S, T / P = S := ⟨_, rfl⟩
      have hA9 : A ≤ 9007199254740991 := by rw [← hA]; exact Nat.le_trans (Nat.div_le_self _ _) q1
      have hB9 : B ≤ 9007199254740991 := by rw [← hBB]; exact Nat.le_trans (Nat.div_le_self _ _) q2
      have hR9 : R ≤ 9007199254740991 := by rw [← hR]; exact Nat.le_trans (Nat.div_le_self _ _) (by have := HT.out; omega)
      rw [hA, hBB, hS] at hdd
      rw [hR, hS] at hst
      rw [hR]
      have i0 : ¬ (i : Int) < 0 := by omega
      have i1 : min i 64 = i := by omega
      have w1 : IntKind.i64.wrap (P : Int) = (P : Int) := by rw [IntKind.wrap_i64]; omega
      have p0 : ((P : Int) == 0) = false := by rw [beq_eq_false_iff_ne]; omega
      have d1 : (a : Int).tdiv (P : Int) = (A : Int) := by rw [Int.tdiv_eq_ediv_of_nonneg (by omega), ← hA, Int.natCast_ediv]
      have w2 : IntKind.i64.wrap (A : Int) = (A : Int) := by rw [IntKind.wrap_i64]; omega
      have m1 : (A : Int).tmod 2 = ((A % 2 : Nat) : Int) := by rw [Int.tmod_eq_emod_of_nonneg (by omega)]; omega
      have d2 : (b : Int).tdiv (P : Int) = (B : Int) := by rw [Int.tdiv_eq_ediv_of_nonneg (by omega), ← hBB, Int.natCast_ediv]
      have w3 : IntKind.i64.wrap (B : Int) = (B : Int) := by rw [IntKind.wrap_i64]; omega
      have m2 : (B : Int).tmod 2 = ((B % 2 : Nat) : Int) := by rw [Int.tmod_eq_emod_of_nonneg (by omega)]; omega
      have w4 : IntKind.i64.wrap (2 * (R : Int)) = 2 * (R : Int) := by rw [IntKind.wrap_i64]; omega
      have w5 : IntKind.i64.wrap (2 * (R : Int) + 1) = 2 * (R : Int) + 1 := by rw [IntKind.wrap_i64]; omega
      have hs0 := Lib.hid hS
      have hp0 := Lib.hid hP
      clear hA hBB hB9 hR hS hP hA9 hR9
      rcases Nat.mod_two_eq_zero_or_one A with x1 | x1 <;> rcases Nat.mod_two_eq_zero_or_one B with y1 | y1 <;>
        · rw [x1] at m1 hdd
          rw [y1] at m2 hdd
          have hst := Lib.hid hst
          have hdd := Lib.hid hdd
          go_wp2_with fail
          go_quiet (fail)
          go_wp2_with fail
          go_roundw
          case rel =>
            refine ⟨i, by omega, by go_num, ?_, Lib.hid (HB.out.trans (below_draws _ _ _))⟩
            rw [hp0.out, hs0.out]
            have h1 := hst.out
            have h2 := hdd.out
            congr 1
            omega
          case measure => simp [RowKit.intOf]
set_option maxRecDepth 100000 in
set_option maxHeartbeats 2000000 in
theorem rbits_6 (x y : Nat) (w : World) (hx : x < 18446744073709551616) (hy : y < 18446744073709551616) (h1 : okW x 4845873199050653695 = true) :
    Calls Try.prog 22 #[.int .i64 6, .float .f64 x, .float .f64 y] w fun e w' => e = .returned (.tuple #[.float .f64 (fw (9007199254740991 - qW x)), .int .i64 0]) ∧ Below w.heap.size w w' := by
  have C1 := Lib.hid (fun W => rword_yes x W hx h1)
  have C2 := Lib.hid (fun W => rword_some y W hy)
  have q1 := (okW_le (b := x) (Q := 9007199254740991) (by omega) (by rw [fw_top]; exact h1)).1
  obtain ⟨a, ha⟩ : ∃ a, qW x = a := ⟨_, rfl⟩
  rw [ha] at C1 q1 ⊢
  have hT : 9007199254740991 - a < 9007199254740992 := by omega
  have hd := Lib.hid (fun (i : Nat) (hi : i < 53) => dig_not (a := a) (by omega) hi)
  obtain ⟨T, hTT⟩ : ∃ T, 9007199254740991 - a = T := ⟨_, rfl⟩
  rw [hTT] at hT ⊢
  simp only [hTT] at hd
  have HT := Lib.hid hT
  clear hTT ha h1 hT
  go_enter Try.func22, Try.ntmps22
  go_wp2_with fail
  refine (C1.out _).mono ?_
  rintro e w1 ⟨rfl, hB1⟩
  go_wp2_with fail
  refine (C2.out _).mono ?_
  rintro e w2 ⟨z, tt, rfl, hB2⟩
  have hB := hB1.trans (hB2.mono hB1.size)
  clear hB1 hB2
  go_wp2_with fail
  go_loopw [14, 15, 16, 17, 18] (fun ov iv _ _ _ wr => ∃ k : Nat, k ≤ 53 ∧ iv = .int .i64 ((k : Int) - 1) ∧ ov = .int .i64 ((T / 2 ^ k : Nat) : Int) ∧ Hid (Below w.heap.size w wr)) (fun _ iv _ _ _ _ => (RowKit.intOf iv + 1).toNat)
  case atStart =>
    refine ⟨53, by omega, rfl, ?_, Lib.hid hB⟩
    rw [Nat.div_eq_of_lt (show T < 2 ^ 53 from HT.out)]
    rfl
  case round =>
    clear hB
    obtain ⟨k, hk, rfl, rfl, HB⟩ := hrel
    rcases Nat.eq_zero_or_pos k with h0 | h0
    · subst h0
      rw [Nat.pow_zero, Nat.div_one]
      have hf : floatOfInt .f64 (T : Int) = fw T := float_nat HT.out
      go_wp2_with fail
      go_ret2
      exact ⟨rfl, HB.out⟩
    · obtain ⟨i, rfl⟩ : ∃ i, k = i + 1 := ⟨k - 1, by omega⟩
      have e1 : (((i + 1 : Nat) : Int) - 1) = (i : Int) := by omega
      rw [e1]
      have hp52 := pow_le52 (i := i) (by omega)
      have hpp : 0 < 2 ^ i := Nat.pow_pos (by omega)
      have hdd := hd.out i (by omega)
      have hst := dig_step T i
      obtain ⟨P, hP⟩ : ∃ P, 2 ^ i = P := ⟨_, rfl⟩
      have hPi : (2 : Int) ^ i = (P : Int) := by rw [← hP, Int.natCast_pow]; rfl
      rw [hP] at hp52 hpp hdd hst
      obtain ⟨A, hA⟩ : ∃ A, a / P = A := ⟨_, rfl⟩
      obtain ⟨R, hR⟩ : ∃ R, T / 2 ^ (i + 1) = R := ⟨_, rfl⟩
      obtain ⟨S, hS⟩ : ∃ S, T / P = S := ⟨_, rfl⟩
      have hA9 : A ≤ 9007199254740991 := by rw [← hA]; exact Nat.le_trans (Nat.div_le_self _ _) q1
      have hR9 : R ≤ 9007199254740991 := by rw [← hR]; exact Nat.le_trans (Nat.div_le_self _ _) (by have := HT.out; omega)
      rw [hA, hS] at hdd
      rw [hR, hS] at hst
      rw [hR]
      have i0 : ¬ (i : Int) < 0 := by omega
      have i1 : min i 64 = i := by omega
      have w1 : IntKind.i64.wrap (P : Int) = (P : Int) := by rw [IntKind.wrap_i64]; omega
      have p0 : ((P : Int) == 0) = false := by rw [beq_eq_false_iff_ne]; omega
      have d1 : (a : Int).tdiv (P : Int) = (A : Int) := by rw [Int.tdiv_eq_ediv_of_nonneg (by omega), ← hA, Int.natCast_ediv]
      have w2 : IntKind.i64.wrap (A : Int) = (A : Int) := by rw [IntKind.wrap_i64]; omega
      have m1 : (A : Int).tmod 2 = ((A % 2 : Nat) : Int) := by rw [Int.tmod_eq_emod_of_nonneg (by omega)]; omega
      have w4 : IntKind.i64.wrap (2 * (R : Int)) = 2 * (R : Int) := by rw [IntKind.wrap_i64]; omega
      have w5 : IntKind.i64.wrap (2 * (R : Int) + 1) = 2 * (R : Int) + 1 := by rw [IntKind.wrap_i64]; omega
      have hs0 := Lib.hid hS
      have hp0 := Lib.hid hP
      clear hA hR hS hP hA9 hR9
      rcases Nat.mod_two_eq_zero_or_one A with x1 | x1 <;>
        · rw [x1] at m1 hdd
          have hst := Lib.hid hst
          have hdd := Lib.hid hdd
          go_wp2_with fail
          go_quiet (fail)
          go_wp2_with fail
          go_roundw
          case rel =>
            refine ⟨i, by omega, by go_num, ?_, Lib.hid (HB.out.trans (below_draws _ _ _))⟩
            rw [hp0.out, hs0.out]
            have h1 := hst.out
            have h2 := hdd.out
            congr 1
            omega
          case measure => simp [RowKit.intOf]
end Go.Proofs.Ytelhbkfhalpniaa
