/- Several texts in one (The definition of layer 4: isDigit, blank, hex, Same; Plain: numbers far below and far above all floats. No walk here; The definition of layer 4: value, of no more than 1000 digits; The definition of layer 4: value, of one digit to 1000 behind the noughts; The definition of layer 4: value, of more than 1000 digits behind the noughts; The definition of layer 4: value at any digits; plain: a numeral by its places). -/
import Derived.WalkSpells
import Derived.Test.YtlpobomlnlakcaaGreatDoorPk9
namespace Go.Proofs.YtlpobomlnlakcaaGreatDoor
open Go.RowKit Go.Lib

/-- Does a decimal digit stand there? -/
def digAt (l : List UInt8) (i : Nat) : Bool := match l[i]? with | some c => isD c | none => false
theorem digAt_lt {l : List UInt8} {i : Nat} (h : digAt l i = true) : i < l.length := by
  unfold digAt at h
  cases e : l[i]? with
  | none => rw [e] at h; cases h
  | some c => exact (List.getElem?_eq_some_iff.1 e).1
theorem digAt_at {l : List UInt8} {i : Nat} (h : i < l.length) : digAt l i = isD l[i] := by
  unfold digAt
  rw [List.getElem?_eq_getElem h]
set_option maxRecDepth 100000 in
set_option maxHeartbeats 1000000 in
theorem isDigit_any (s : ByteArray) (i : Nat) (w : World) (_hs : s.size ≤ 4611686018427387904) (_hi : i ≤ 4611686018427387904) : Calls Tryz.prog 50 #[.string s, .int .i64 (i : Int)] w fun e w' => e = .returned (.bool (digAt s.data.toList i)) ∧ w = w' := by
  by_cases hlt : i < s.size
  · have hb := ba_byte s rfl i hlt
    have hl : i < s.data.toList.length := by rw [ba_len]; exact hlt
    obtain ⟨z, hz⟩ : ∃ z, (s[i]'hlt).toNat = z := ⟨_, rfl⟩
    have hzi : (((s[i]'hlt).toNat : Nat) : Int) = (z : Int) := by rw [hz]
    have hE : digAt s.data.toList i = (decide (48 ≤ z) && decide (z ≤ 57)) := by
      unfold digAt
      rw [hb]
      show isD (s[i]'hlt) = _
      unfold isD
      rw [hz]
    rw [hE]
    by_cases h1 : 48 ≤ z
    · by_cases h2 : z ≤ 57
      · have h1i : (48 : Int) ≤ (z : Int) := by omega
        have h2i : (z : Int) ≤ 57 := by omega
        rw [decide_eq_true h1, decide_eq_true h2]
        clear hb hl hE hz
        go_enter Tryz.func50, Tryz.ntmps50
        go_wp2
        go_ret
        exact ⟨rfl, rfl⟩
      · have h1i : (48 : Int) ≤ (z : Int) := by omega
        have h2i : ¬ (z : Int) ≤ 57 := by omega
        rw [decide_eq_true h1, decide_eq_false h2]
        clear hb hl hE hz
        go_enter Tryz.func50, Tryz.ntmps50
        go_wp2
        go_ret
        exact ⟨rfl, rfl⟩
    · have h1i : ¬ (48 : Int) ≤ (z : Int) := by omega
      rw [decide_eq_false h1, Bool.false_and]
      clear hb hl hE hz
      go_enter Tryz.func50, Tryz.ntmps50
      go_wp2
      go_ret
      exact ⟨rfl, rfl⟩
  · have hE : digAt s.data.toList i = false := by
      cases h : digAt s.data.toList i with
      | false => rfl
      | true => have := digAt_lt h; rw [ba_len] at this; omega
    rw [hE]
    have hl : ¬ (i : Int) < (s.size : Int) := by omega
    clear hE
    go_enter Tryz.func50, Tryz.ntmps50
    go_wp2
    go_ret
    exact ⟨rfl, rfl⟩
def blB (c : Nat) : Bool := c == 32 || c == 9 || c == 10
theorem blB_contains (c : UInt8) : ([32, 9, 10] : List UInt8).contains c = blB c.toNat := by
  unfold blB
  have h : ∀ k : UInt8, (c == k) = (c.toNat == k.toNat) := fun k => by
    rw [Bool.eq_iff_iff, beq_iff_eq, beq_iff_eq]
    exact ⟨fun e => by rw [e], fun e => UInt8.toNat_inj.1 e⟩
  rw [List.contains_cons, List.contains_cons, List.contains_cons, List.contains_nil, h, h, h]
  simp [Bool.or_assoc]
set_option maxRecDepth 100000 in
set_option maxHeartbeats 1000000 in
theorem blank_any (c : Nat) (w : World) (hc : c < 256) : Calls Tryz.prog 28 #[.int .u8 (c : Int)] w fun e w' => e = .returned (.bool (blB c)) ∧ w = w' := by
  unfold blB
  by_cases h1 : c = 32
  · subst h1
    go_enter Tryz.func28, Tryz.ntmps28
    go_wp2
    go_ret
    exact ⟨rfl, rfl⟩
  · by_cases h2 : c = 9
    · subst h2
      go_enter Tryz.func28, Tryz.ntmps28
      go_wp2
      go_ret
      exact ⟨rfl, rfl⟩
    · by_cases h3 : c = 10
      · subst h3
        go_enter Tryz.func28, Tryz.ntmps28
        go_wp2
        go_ret
        exact ⟨rfl, rfl⟩
      · have e1 : (c == 32) = false := by rw [beq_eq_false_iff_ne]; exact h1
        have e2 : (c == 9) = false := by rw [beq_eq_false_iff_ne]; exact h2
        have e3 : (c == 10) = false := by rw [beq_eq_false_iff_ne]; exact h3
        rw [e1, e2, e3]
        have g1 : ((c : Int) == 32) = false := by rw [beq_eq_false_iff_ne]; omega
        have g2 : ((c : Int) == 9) = false := by rw [beq_eq_false_iff_ne]; omega
        have g3 : ((c : Int) == 10) = false := by rw [beq_eq_false_iff_ne]; omega
        clear h1 h2 h3 e1 e2 e3
        go_enter Tryz.func28, Tryz.ntmps28
        go_wp2
        go_ret
        exact ⟨rfl, rfl⟩
def hexI (c : Nat) : Int := if hexB c = true then (hexR c : Int) else -1
set_option maxRecDepth 100000 in
set_option maxHeartbeats 1000000 in
theorem rhex_any (c : Nat) (w : World) (hc : c < 256) : Calls Tryz.prog 32 #[.int .u8 (c : Int)] w fun e w' => e = .returned (.int .i64 (hexI c)) ∧ w = w' := by
  rcases (by omega : (48 ≤ c ∧ c ≤ 57) ∨ (97 ≤ c ∧ c ≤ 102) ∨ (65 ≤ c ∧ c ≤ 70) ∨ c < 48 ∨ (57 < c ∧ c < 65) ∨ (70 < c ∧ c < 97) ∨ 102 < c) with h | h | h | h | h | h | h
  · have hv : hexV c = c - 48 := by unfold hexV; rw [if_pos h]
    have HV := Lib.hid (show hexI c = (c : Int) - 48 by unfold hexI hexR hexB; rw [hv, if_pos (by rw [bne_iff_ne]; omega), if_neg (by omega)]; omega)
    have h1 := h.1
    have h2 := h.2
    clear hv h
    go_enter Tryz.func32, Tryz.ntmps32
    go_wp2
    go_ret
    exact ⟨by rw [HV.out]; rfl, rfl⟩
  · have hv : hexV c = c - 87 := by unfold hexV; rw [if_neg (by omega), if_pos h]
    have HV := Lib.hid (show hexI c = (c : Int) - 97 + 10 by unfold hexI hexR hexB; rw [hv, if_pos (by rw [bne_iff_ne]; omega), if_neg (by omega)]; omega)
    have h1 : ¬ c ≤ 57 := by omega
    have h2 : 97 ≤ c := h.1
    have h3 : c ≤ 102 := h.2
    clear hv h
    go_enter Tryz.func32, Tryz.ntmps32
    go_wp2
    go_ret
    exact ⟨by rw [HV.out]; rfl, rfl⟩
  · have hv : hexV c = c - 55 := by unfold hexV; rw [if_neg (by omega), if_neg (by omega), if_pos h]
    have HV := Lib.hid (show hexI c = (c : Int) - 65 + 10 by unfold hexI hexR hexB; rw [hv, if_pos (by rw [bne_iff_ne]; omega), if_neg (by omega)]; omega)
    have h1 : ¬ c ≤ 57 := by omega
    have h2 : ¬ 97 ≤ c := by omega
    have h3 : 65 ≤ c := h.1
    have h4 : c ≤ 70 := h.2
    clear hv h
    go_enter Tryz.func32, Tryz.ntmps32
    go_wp2
    go_ret
    exact ⟨by rw [HV.out]; rfl, rfl⟩
  all_goals
    have hv : hexV c = 16 := by unfold hexV; rw [if_neg (by omega), if_neg (by omega), if_neg (by omega)]
    have hb : hexI c = -1 := by unfold hexI hexB; rw [hv]; rfl
    rw [hb]
    clear hv hb
  · go_enter Tryz.func32, Tryz.ntmps32
    have h1 : ¬ 48 ≤ c := by omega
    have h2 : ¬ 97 ≤ c := by omega
    have h3 : ¬ 65 ≤ c := by omega
    go_wp2
    go_ret
    exact ⟨rfl, rfl⟩
  · obtain ⟨ha, hc2⟩ := h
    have h1 : ¬ c ≤ 57 := by omega
    have h2 : ¬ 97 ≤ c := by omega
    have h3 : ¬ 65 ≤ c := by omega
    go_enter Tryz.func32, Tryz.ntmps32
    go_wp2
    go_ret
    exact ⟨rfl, rfl⟩
  · obtain ⟨ha, hc2⟩ := h
    have h1 : ¬ c ≤ 57 := by omega
    have h2 : ¬ 97 ≤ c := by omega
    have h3 : ¬ c ≤ 70 := by omega
    go_enter Tryz.func32, Tryz.ntmps32
    go_wp2
    go_ret
    exact ⟨rfl, rfl⟩
  · have h1 : ¬ c ≤ 57 := by omega
    have h2 : ¬ c ≤ 102 := by omega
    have h3 : ¬ c ≤ 70 := by omega
    go_enter Tryz.func32, Tryz.ntmps32
    go_wp2
    go_ret
    exact ⟨rfl, rfl⟩
set_option maxRecDepth 100000 in
set_option maxHeartbeats 1000000 in
/-- The same bits, or both a NaN. -/
theorem same_true (x y : Nat) (w : World) (_hx : x < 18446744073709551616) (hy : y < 18446744073709551616) (h : cn x = cn y) : Calls Tryz.prog 14 #[.float .f64 x, .float .f64 y] w fun e w' => e = .returned (.bool true) ∧ w = w' := by
  have b1 := fun W => run_f64bits x W
  have b2 := fun W => run_f64bits y W
  by_cases hn : 9218868437227405312 < mag x
  · have hn2 : 9218868437227405312 < mag y := by
      rw [cn_nan hn] at h
      rcases Nat.lt_or_ge 9218868437227405312 (mag y) with h1 | h1
      · exact h1
      · rw [cn_id h1] at h
        rw [← h] at h1
        exact absurd h1 (by decide)
    have t1 : (FloatKind.f64.format.order x x != some .eq) = true := nan_yes hn
    have t2 : (FloatKind.f64.format.order y y != some .eq) = true := nan_yes hn2
    clear hn hn2 h
    go_enter Tryz.func14, Tryz.ntmps14
    go_wp2
    go_ret
    exact ⟨rfl, rfl⟩
  · have hxy : x = y := by
      rw [cn_id (by omega)] at h
      unfold cn at h
      split at h
      · rw [h] at hn
        exact absurd (by decide : 9218868437227405312 < mag qN) hn
      · exact h
    subst hxy
    have t1 : (FloatKind.f64.format.order x x != some .eq) = false := nan_no (by omega)
    have t3 : ((x : Int) == (x : Int)) = true := by rw [beq_iff_eq]
    clear hn h
    go_enter Tryz.func14, Tryz.ntmps14
    go_wp2
    go_ret
    exact ⟨rfl, rfl⟩
end Go.Proofs.YtlpobomlnlakcaaGreatDoor

namespace Go.Proofs.YtlpobomlnlakcaaGreatDoor

theorem far_pow : 2 * S1074 ≤ 10 ^ 324 := by decide +kernel
theorem near_low_end {n len : Nat} {e : Int} (hn : n < 10 ^ len) (h : e + (len : Int) < -400) : Near (2 * (n * 10 ^ e.toNat) * S1074) (10 ^ (-e).toNat) 0 := by
  obtain ⟨c, hc⟩ : ∃ c, (-e).toNat = c := ⟨_, rfl⟩
  obtain ⟨t, ht⟩ : ∃ t : Nat, t = 324 := ⟨_, rfl⟩
  have hf := far_pow
  rw [← ht] at hf
  rw [hc, show e.toNat = 0 by omega, Nat.pow_zero, Nat.mul_one]
  have h1 : 2 * n * S1074 < 10 ^ c := by
    have a1 : 2 * n * S1074 = n * (2 * S1074) := by
      generalize S1074 = z
      ac_rfl
    rw [a1]
    have a2 : n * (2 * S1074) ≤ n * 10 ^ t := Nat.mul_le_mul_left _ hf
    have a3 : n * 10 ^ t < 10 ^ len * 10 ^ t := Nat.mul_lt_mul_of_pos_right hn (Nat.pow_pos (by omega))
    rw [← Nat.pow_add] at a3
    have a4 : 10 ^ (len + t) ≤ 10 ^ c := Nat.pow_le_pow_right (by omega) (by omega)
    exact Nat.lt_of_le_of_lt a2 (Nat.lt_of_lt_of_le a3 a4)
  have hV : V 0 + V (0 + 1) = 1 := by decide
  refine ⟨fun q e => absurd e (by omega), fun q e => absurd e (by omega), fun _ => ?_, fun _ g => ?_, by omega⟩
  · rw [hV, Nat.one_mul]
    exact Nat.le_of_lt h1
  · rfl
theorem near_high_end {n len : Nat} {e : Int} (hn : 10 ^ (len - 1) ≤ n) (hl : 1 ≤ len) (h : 400 < e + (len : Int)) : Near (2 * (n * 10 ^ e.toNat) * S1074) (10 ^ (-e).toNat) 9218868437227405312 := by
  obtain ⟨t, ht⟩ : ∃ t : Nat, t = 310 := ⟨_, rfl⟩
  have hT := near_far_top (n := 1) (c := t) (by omega) (by omega)
  have h1 : 10 ^ t * 10 ^ (-e).toNat ≤ n * 10 ^ e.toNat := by
    have a1 : 10 ^ (len - 1) * 10 ^ e.toNat ≤ n * 10 ^ e.toNat := Nat.mul_le_mul_right _ hn
    rw [← Nat.pow_add] at a1
    rw [← Nat.pow_add]
    exact Nat.le_trans (Nat.pow_le_pow_right (by omega) (by omega)) a1
  refine ⟨fun q hq => ?_, fun q hq _ => by decide, fun g => absurd g (by omega), fun g => absurd g (by omega), by omega⟩
  have b := hT.lo q hq
  rw [Nat.mul_one, Nat.one_mul] at b
  have b2 : (V q + V 9218868437227405312) * 10 ^ (-e).toNat ≤ 2 * 10 ^ t * S1074 * 10 ^ (-e).toNat := Nat.mul_le_mul_right _ b
  refine Nat.le_trans b2 ?_
  have e1 : 2 * 10 ^ t * S1074 * 10 ^ (-e).toNat = 2 * (10 ^ t * 10 ^ (-e).toNat) * S1074 := by
    generalize S1074 = z
    ac_rfl
  rw [e1]
  exact Nat.mul_le_mul_right _ (Nat.mul_le_mul_left _ h1)
end Go.Proofs.YtlpobomlnlakcaaGreatDoor

namespace Go.Proofs.YtlpobomlnlakcaaGreatDoor
open Go.RowKit Go.Lib

def cod (l : List UInt8) : List Nat := l.map UInt8.toNat
theorem cod_len (l : List UInt8) : (cod l).length = l.length := List.length_map _
theorem cod_get {l : List UInt8} {j : Nat} (h : j < l.length) : (cod l)[j]'(by rw [cod_len]; exact h) = (l[j]).toNat := by simp [cod]
theorem rd_cell {w : World} {g o : Nat} {l : List UInt8} (h : Rd .u8 w (some ⟨g, o, none⟩) (cod l)) {j : Nat} (hj : j < l.length) : w.cell? ⟨g, o + j, none⟩ = some (.int .u8 (((l[j]).toNat : Nat) : Int)) := by
  obtain ⟨g', o', e, hc⟩ := h j (by rw [cod_len]; exact hj)
  cases e
  rw [hc, cod_get hj]
theorem rd_drop {w : World} {g o k : Nat} {l : List UInt8} (h : Rd .u8 w (some ⟨g, o, none⟩) (cod l)) : Rd .u8 w (some ⟨g, o + k, none⟩) (cod (l.drop k)) := by
  refine Rd.of fun j hj => ?_
  rw [cod_len, List.length_drop] at hj
  have hc := rd_cell h (j := k + j) (by omega)
  rw [Nat.add_assoc, hc, cod_get (by rw [List.length_drop]; exact hj), List.getElem_drop]
theorem conv_rd (w : World) (g o cap : Nat) (l : List UInt8) (h : Rd .u8 w (some ⟨g, o, none⟩) (cod l)) : (convert 39 9 (.slice (some ⟨g, o, none⟩) l.length cap)).run Tryz.prog w = .ok (.string ⟨l.toArray⟩) w := by
  refine run_convert_bytes_back (P := Tryz.prog) w 39 9 5 ⟨g, o, none⟩ cap l Tryz.underlying39 Tryz.underlying5 Tryz.underlying9 (fun j hj => ?_)
  rw [Addr.add_lit, rd_cell h hj]
/-- How many noughts stand ahead. -/
def nz (l : List UInt8) : Nat := l.length - (l.dropWhile (· == 48)).length
theorem nz_take (l : List UInt8) : nz l = (l.takeWhile (· == 48)).length := by
  have h : l.takeWhile (· == 48) ++ l.dropWhile (· == 48) = l := List.takeWhile_append_dropWhile
  have hl := congrArg List.length h
  rw [List.length_append] at hl
  unfold nz
  omega
theorem nz_drop (l : List UInt8) : l.drop (nz l) = l.dropWhile (· == 48) := by
  have h : l.takeWhile (· == 48) ++ l.dropWhile (· == 48) = l := List.takeWhile_append_dropWhile
  have e := List.drop_left (l₁ := l.takeWhile (· == 48)) (l₂ := l.dropWhile (· == 48))
  rw [h] at e
  rw [nz_take]
  exact e
theorem nz_le (l : List UInt8) : nz l ≤ l.length := Nat.sub_le _ _
theorem nz_at {l : List UInt8} {j : Nat} (hj : j < nz l) : l[j]'(Nat.lt_of_lt_of_le hj (nz_le l)) = 48 := by
  have h : l.takeWhile (· == 48) ++ l.dropWhile (· == 48) = l := List.takeWhile_append_dropWhile
  have hj2 : j < (l.takeWhile (· == 48)).length := by rw [← nz_take]; exact hj
  have e := List.getElem?_append_left (l₂ := l.dropWhile (· == 48)) hj2
  rw [h, List.getElem?_eq_getElem (Nat.lt_of_lt_of_le hj (nz_le l)), List.getElem?_eq_getElem hj2] at e
  rw [Option.some.inj e]
  have := List.all_eq_true.1 (List.all_takeWhile (p := (· == (48 : UInt8))) (l := l)) _ (List.getElem_mem hj2)
  exact eq_of_beq this
def RVal (w : World) (X D : Nat) (e : Ending) (w' : World) : Prop := ∃ r, e = .returned (.float .f64 r) ∧ Hid (Near X D r) ∧ Below w.heap.size w w'
set_option maxRecDepth 100000 in
set_option maxHeartbeats 2000000 in
theorem rvalue_zero (A : Option Addr) (n cap : Nat) (ds : List UInt8) (x : Int) (w : World) (hn : ds.length = n) (hcap : n ≤ cap) (hcm : cap ≤ 9223372036854775807) (hra : Rd .u8 w A (cod ds)) (h0 : nz ds = n) (X D : Nat) (hX : X = 0) (hD : 0 < D) :
    Calls Tryz.prog 41 #[.slice A n cap, .int .i64 x] w (RVal w X D) := by
  have HZ := Lib.hid (show Near X D 0 by rw [hX]; exact near_zero hD)
  have HA := Lib.hid (fun (j : Nat) (hj : j < n) => show ∃ g o, A = some ⟨g, o, none⟩ ∧ w.cell? ⟨g, o + j, none⟩ = some (.int .u8 48) by
    obtain ⟨g, o, e, hc⟩ := hra j (by rw [cod_len, hn]; exact hj)
    refine ⟨g, o, e, ?_⟩
    rw [hc, cod_get (by omega), nz_at (by omega)]
    rfl)
  have hcc : cap = n ∨ ¬ cap = n := by omega
  clear hX hra hn h0
  rcases hcc with hc | hc
  all_goals
    go_enter Tryz.func41, Tryz.ntmps41
    go_wp2
    go_loop [5] (fun kv => ∃ j : Nat, j ≤ n ∧ kv = .int .i64 (j : Int)) (fun kv => n - (RowKit.intOf kv).toNat)
    case atStart => exact ⟨0, by omega, rfl⟩
    case round =>
      obtain ⟨j, hj, rfl⟩ := hrel
      by_cases hlt : j < n
      · obtain ⟨g, o, rfl, hcell⟩ := HA.out j hlt
        go_wp2_with fail
        go_round
        case rel => exact ⟨j + 1, by omega, by go_num⟩
        case measure => simp [RowKit.intOf]; omega
      · obtain rfl : j = n := by omega
        go_wp2_with fail
        go_ret
        exact ⟨0, rfl, HZ, Below.refl _ _⟩
end Go.Proofs.YtlpobomlnlakcaaGreatDoor

namespace Go.Proofs.YtlpobomlnlakcaaGreatDoor
open Go.RowKit Go.Lib

theorem nz_stop {l : List UInt8} (h : nz l < l.length) : l[nz l] ≠ 48 := by
  have e := nz_drop l
  rw [List.drop_eq_getElem_cons h] at e
  exact trim_head e.symm
theorem nz_pv (l : List UInt8) : pv l = pv (l.drop (nz l)) := by rw [nz_drop, pv_trim]
theorem lead_ge {l : List UInt8} (hd : Dec l) (h : nz l < l.length) : 10 ^ ((l.drop (nz l)).length - 1) ≤ pv (l.drop (nz l)) := by
  rw [List.drop_eq_getElem_cons h, List.length_cons, Nat.add_sub_cancel]
  refine pv_ge (fun c hc => hd c ?_) (nz_stop h)
  rw [← List.drop_eq_getElem_cons h] at hc
  exact List.drop_subset _ _ hc
set_option maxRecDepth 100000 in
set_option maxHeartbeats 2000000 in
theorem rvalue_low (g o n m k cap : Nat) (ds : List UInt8) (x : Int) (w : World) (hn : ds.length = n) (hk : nz ds = k) (hkm : n = k + m) (hm0 : 0 < m) (hm : m ≤ 1000) (hcap : n ≤ cap) (hcm : cap ≤ 9223372036854775807) (hx0 : -1000000 ≤ x) (hx9 : x ≤ 1000000) (hd : Dec ds) (hra : Rd .u8 w (some ⟨g, o, none⟩) (cod ds)) (hx : x + (m : Int) < -400) :
    Calls Tryz.prog 41 #[.slice (some ⟨g, o, none⟩) n cap, .int .i64 x] w (RVal w (2 * (pv ds * 10 ^ x.toNat) * S1074) (10 ^ (-x).toNat)) := by
  have hTl : (ds.drop k).length = m := by rw [List.length_drop]; omega
  have HA := Lib.hid (fun (j : Nat) (hj : j < k) => show w.cell? ⟨g, o + j, none⟩ = some (.int .u8 48) by
    rw [rd_cell hra (j := j) (by omega), nz_at (by omega)]
    rfl)
  obtain ⟨z, hz⟩ : ∃ z, (ds[k]'(by omega)).toNat = z := ⟨_, rfl⟩
  have hzc : w.cell? ⟨g, o + k, none⟩ = some (.int .u8 (z : Int)) := by rw [rd_cell hra (j := k) (by omega), hz]
  have hz48 : z ≠ 48 := by
    intro e
    subst hk
    exact nz_stop (l := ds) (by omega) (UInt8.toNat_inj.1 (by rw [hz, e]; rfl))
  have hzb : ((z : Int) == 48) = false := by rw [beq_eq_false_iff_ne]; omega
  have hp := nz_pv ds
  rw [hk] at hp
  have hTd : Dec (ds.drop k) := fun c hc => hd c (List.drop_subset _ _ hc)
  have hlead : 10 ^ (m - 1) ≤ pv (ds.drop k) := by
    have h := lead_ge hd (by omega)
    rwa [hk, hTl] at h
  have hlt := pv_lt hTd
  rw [hTl] at hlt
  rw [hp]
  obtain ⟨T, hT⟩ : ∃ T, ds.drop k = T := ⟨_, rfl⟩
  rw [hT] at hTl hTd hlead hlt
  rw [hT]
  have HZ := Lib.hid (near_low_end (e := x) hlt hx)
  have g1 : x + (m : Int) < -400 := hx
  obtain ⟨XX, hXX⟩ : ∃ XX, 2 * (pv T * 10 ^ x.toNat) * S1074 = XX := ⟨_, rfl⟩
  obtain ⟨DD, hDD⟩ : ∃ DD, 10 ^ (-x).toNat = DD := ⟨_, rfl⟩
  rw [hXX, hDD] at HZ ⊢
  have hnk : (n : Int) - (k : Int) = (m : Int) := by omega
  have hnk2 : n - k = m := by omega
  have hck : ¬ cap = k := by omega
  clear hTl hTd hlead hlt hp hz hz48 hra hd hn hk hT hx hXX hDD
  go_enter Tryz.func41, Tryz.ntmps41
  go_wp2
  go_loop [5] (fun kv => ∃ j : Nat, j ≤ k ∧ kv = .int .i64 (j : Int)) (fun kv => k - (RowKit.intOf kv).toNat)
  case atStart => exact ⟨0, by omega, rfl⟩
  case round =>
    obtain ⟨j, hj, rfl⟩ := hrel
    by_cases hlt : j < k
    · have hcell := HA.out j hlt
      go_wp2_with fail
      go_round
      case rel => exact ⟨j + 1, by omega, by go_num⟩
      case measure => simp [RowKit.intOf]; omega
    · obtain rfl : j = k := by omega
      go_wp2_with fail
      go_ret
      exact ⟨0, rfl, HZ, Below.refl _ _⟩
set_option maxRecDepth 100000 in
set_option maxHeartbeats 2000000 in
theorem rvalue_high (g o n m k cap : Nat) (ds : List UInt8) (x : Int) (w : World) (hn : ds.length = n) (hk : nz ds = k) (hkm : n = k + m) (hm0 : 0 < m) (hm : m ≤ 1000) (hcap : n ≤ cap) (hcm : cap ≤ 9223372036854775807) (hx0 : -1000000 ≤ x) (hx9 : x ≤ 1000000) (hd : Dec ds) (hra : Rd .u8 w (some ⟨g, o, none⟩) (cod ds)) (hx : 400 < x + (m : Int)) :
    Calls Tryz.prog 41 #[.slice (some ⟨g, o, none⟩) n cap, .int .i64 x] w (RVal w (2 * (pv ds * 10 ^ x.toNat) * S1074) (10 ^ (-x).toNat)) := by
  have hTl : (ds.drop k).length = m := by rw [List.length_drop]; omega
  have HA := Lib.hid (fun (j : Nat) (hj : j < k) => show w.cell? ⟨g, o + j, none⟩ = some (.int .u8 48) by
    rw [rd_cell hra (j := j) (by omega), nz_at (by omega)]
    rfl)
  obtain ⟨z, hz⟩ : ∃ z, (ds[k]'(by omega)).toNat = z := ⟨_, rfl⟩
  have hzc : w.cell? ⟨g, o + k, none⟩ = some (.int .u8 (z : Int)) := by rw [rd_cell hra (j := k) (by omega), hz]
  have hz48 : z ≠ 48 := by
    intro e
    subst hk
    exact nz_stop (l := ds) (by omega) (UInt8.toNat_inj.1 (by rw [hz, e]; rfl))
  have hzb : ((z : Int) == 48) = false := by rw [beq_eq_false_iff_ne]; omega
  have hp := nz_pv ds
  rw [hk] at hp
  have hTd : Dec (ds.drop k) := fun c hc => hd c (List.drop_subset _ _ hc)
  have hlead : 10 ^ (m - 1) ≤ pv (ds.drop k) := by
    have h := lead_ge hd (by omega)
    rwa [hk, hTl] at h
  have hlt := pv_lt hTd
  rw [hTl] at hlt
  rw [hp]
  obtain ⟨T, hT⟩ : ∃ T, ds.drop k = T := ⟨_, rfl⟩
  rw [hT] at hTl hTd hlead hlt
  rw [hT]
  have HZ := Lib.hid (near_high_end (e := x) hlead (by omega) hx)
  have hfr : ∀ W : World, (callFunc 17 #[.int .u64 9218868437227405312]).run Tryz.prog W = .ok (.value (.float .f64 9218868437227405312)) W := fun W => run_f64from 9218868437227405312 W
  have g1 : ¬ x + (m : Int) < -400 := by omega
  have g2 : 400 < x + (m : Int) := hx
  obtain ⟨XX, hXX⟩ : ∃ XX, 2 * (pv T * 10 ^ x.toNat) * S1074 = XX := ⟨_, rfl⟩
  obtain ⟨DD, hDD⟩ : ∃ DD, 10 ^ (-x).toNat = DD := ⟨_, rfl⟩
  rw [hXX, hDD] at HZ ⊢
  have hnk : (n : Int) - (k : Int) = (m : Int) := by omega
  have hnk2 : n - k = m := by omega
  have hck : ¬ cap = k := by omega
  clear hTl hTd hlead hlt hp hz hz48 hra hd hn hk hT hx hXX hDD
  go_enter Tryz.func41, Tryz.ntmps41
  go_wp2
  go_loop [5] (fun kv => ∃ j : Nat, j ≤ k ∧ kv = .int .i64 (j : Int)) (fun kv => k - (RowKit.intOf kv).toNat)
  case atStart => exact ⟨0, by omega, rfl⟩
  case round =>
    obtain ⟨j, hj, rfl⟩ := hrel
    by_cases hlt : j < k
    · have hcell := HA.out j hlt
      go_wp2_with fail
      go_round
      case rel => exact ⟨j + 1, by omega, by go_num⟩
      case measure => simp [RowKit.intOf]; omega
    · obtain rfl : j = k := by omega
      go_wp2_with fail
      go_ret
      exact ⟨_, rfl, HZ, Below.refl _ _⟩
set_option maxRecDepth 100000 in
set_option maxHeartbeats 2000000 in
theorem rvalue_mid (g o n m k cap : Nat) (ds : List UInt8) (x : Int) (w : World) (hn : ds.length = n) (hk : nz ds = k) (hkm : n = k + m) (hm0 : 0 < m) (hm : m ≤ 1000) (hcap : n ≤ cap) (hcm : cap ≤ 9223372036854775807) (_hx0 : -1000000 ≤ x) (_hx9 : x ≤ 1000000) (hd : Dec ds) (hra : Rd .u8 w (some ⟨g, o, none⟩) (cod ds)) (hx1 : -400 ≤ x + (m : Int)) (hx2 : x + (m : Int) ≤ 400) :
    Calls Tryz.prog 41 #[.slice (some ⟨g, o, none⟩) n cap, .int .i64 x] w (RVal w (2 * (pv ds * 10 ^ x.toNat) * S1074) (10 ^ (-x).toNat)) := by
  have hTl : (ds.drop k).length = m := by rw [List.length_drop]; omega
  have HA := Lib.hid (fun (j : Nat) (hj : j < k) => show w.cell? ⟨g, o + j, none⟩ = some (.int .u8 48) by
    rw [rd_cell hra (j := j) (by omega), nz_at (by omega)]
    rfl)
  obtain ⟨z, hz⟩ : ∃ z, (ds[k]'(by omega)).toNat = z := ⟨_, rfl⟩
  have hzc : w.cell? ⟨g, o + k, none⟩ = some (.int .u8 (z : Int)) := by rw [rd_cell hra (j := k) (by omega), hz]
  have hz48 : z ≠ 48 := by
    intro e
    subst hk
    exact nz_stop (l := ds) (by omega) (UInt8.toNat_inj.1 (by rw [hz, e]; rfl))
  have hzb : ((z : Int) == 48) = false := by rw [beq_eq_false_iff_ne]; omega
  have hp := nz_pv ds
  rw [hk] at hp
  have hTd : Dec (ds.drop k) := fun c hc => hd c (List.drop_subset _ _ hc)
  have hlead : 10 ^ (m - 1) ≤ pv (ds.drop k) := by
    have h := lead_ge hd (by omega)
    rwa [hk, hTl] at h
  have hlt := pv_lt hTd
  rw [hTl] at hlt
  rw [hp]
  obtain ⟨T, hT⟩ : ∃ T, ds.drop k = T := ⟨_, rfl⟩
  rw [hT] at hTl hTd hlead hlt
  rw [hT]
  obtain ⟨TB, hTB⟩ : ∃ TB : ByteArray, (⟨T.toArray⟩ : ByteArray) = TB := ⟨_, rfl⟩
  have hTBl : TB.data.toList = T := by rw [← hTB]
  have hcv : (convert 39 9 (.slice (some ⟨g, o + k, none⟩) m (cap - k))).run Tryz.prog w = .ok (.string TB) w := by
    have h := conv_rd w g (o + k) (cap - k) T (by rw [← hT]; exact rd_drop hra)
    rw [hTl, hTB] at h
    exact h
  have cR := rread_end TB x w (by rw [← ba_len, hTBl]; omega) (isDec_iff.2 ⟨by rw [← ba_len, hTBl]; omega, by rw [hTBl]; exact hTd⟩)
  rw [hTBl] at cR
  obtain ⟨XX, hXX⟩ : ∃ XX, 2 * (pv T * 10 ^ x.toNat) * S1074 = XX := ⟨_, rfl⟩
  obtain ⟨DD, hDD⟩ : ∃ DD, 10 ^ (-x).toNat = DD := ⟨_, rfl⟩
  rw [hXX, hDD] at cR ⊢
  have CR := Lib.hid cR
  have g1 : ¬ x + (m : Int) < -400 := by omega
  have g2 : ¬ 400 < x + (m : Int) := by omega
  have hnk : (n : Int) - (k : Int) = (m : Int) := by omega
  have hnk2 : n - k = m := by omega
  have hck : ¬ cap = k := by omega
  clear hTl hTd hlead hlt hp hz hz48 hra hd hn hk hT hTB hTBl cR hXX hDD hx1 hx2
  go_enter Tryz.func41, Tryz.ntmps41
  go_wp2
  go_loop [5] (fun kv => ∃ j : Nat, j ≤ k ∧ kv = .int .i64 (j : Int)) (fun kv => k - (RowKit.intOf kv).toNat)
  case atStart => exact ⟨0, by omega, rfl⟩
  case round =>
    obtain ⟨j, hj, rfl⟩ := hrel
    by_cases hlt : j < k
    · have hcell := HA.out j hlt
      go_wp2_with fail
      go_round
      case rel => exact ⟨j + 1, by omega, by go_num⟩
      case measure => simp [RowKit.intOf]; omega
    · obtain rfl : j = k := by omega
      go_wp2_with fail
      refine CR.out.mono ?_
      rintro e w1 ⟨r, rfl, hr, hB⟩
      go_wp2_with fail
      go_ret
      exact ⟨r, rfl, hr, hB⟩
end Go.Proofs.YtlpobomlnlakcaaGreatDoor

namespace Go.Proofs.YtlpobomlnlakcaaGreatDoor
open Go.RowKit Go.Lib

theorem near_same {X D X' D' r : Nat} (hD : 0 < D) (hD' : 0 < D') (h : X * D' = X' * D) (a : Near X D r) : Near X' D' r := by
  have le1 : ∀ M, M * D ≤ X → M * D' ≤ X' := fun M hM => by
    refine Nat.le_of_mul_le_mul_right (c := D) ?_ hD
    rw [← h, Nat.mul_right_comm]
    exact Nat.mul_le_mul_right _ hM
  have le2 : ∀ M, X ≤ M * D → X' ≤ M * D' := fun M hM => by
    refine Nat.le_of_mul_le_mul_right (c := D) ?_ hD
    rw [← h, Nat.mul_right_comm]
    exact Nat.mul_le_mul_right _ hM
  have eq2 : ∀ M, X' = M * D' → X = M * D := fun M hM => by
    exact Nat.eq_of_mul_eq_mul_right hD' (by rw [h, hM, Nat.mul_right_comm])
  exact ⟨fun q e => le1 _ (a.lo q e), fun q e g => a.loe q e (eq2 _ g.symm).symm, fun g => le2 _ (a.hi g), fun g e => a.hie g (eq2 _ e), a.top⟩
/-- Are the digits from the thousandth on all noughts? -/
def rsN (T : List UInt8) (i : Nat) : Nat := if ((T.take i).drop 1000).all (· == 48) = true then 48 else 49
theorem rsN_start (T : List UInt8) : rsN T 1000 = 48 := by
  unfold rsN
  rw [List.drop_eq_nil_of_le (by rw [List.length_take]; omega)]
  rfl
theorem rsN_step {T : List UInt8} {i : Nat} (h1 : 1000 ≤ i) (h2 : i < T.length) : rsN T (i + 1) = if T[i].toNat = 48 then rsN T i else 49 := by
  unfold rsN
  have e : (T.take (i + 1)).drop 1000 = (T.take i).drop 1000 ++ [T[i]] := by
    have e0 : T.take (i + 1) = T.take i ++ [T[i]] := List.take_succ_eq_append_getElem h2
    rw [e0, List.drop_append_of_le_length (by rw [List.length_take]; omega)]
  rw [e, List.all_append]
  by_cases hc : T[i].toNat = 48
  · have hb : (T[i] == 48) = true := by rw [beq_iff_eq]; exact UInt8.toNat_inj.1 (by rw [hc]; rfl)
    rw [if_pos hc]
    simp only [List.all_cons, List.all_nil, hb, Bool.and_true]
  · have hb : (T[i] == 48) = false := by rw [beq_eq_false_iff_ne]; intro e; exact hc (by rw [e]; rfl)
    rw [if_neg hc]
    simp only [List.all_cons, List.all_nil, hb, Bool.and_false, Bool.false_and]
    rfl
theorem rsN_two (T : List UInt8) (i : Nat) : rsN T i = 48 ∨ rsN T i = 49 := by
  unfold rsN
  split
  · exact Or.inl rfl
  · exact Or.inr rfl
theorem drop_all {l : List UInt8} {p : UInt8 → Bool} : l.dropWhile p = [] ↔ l.all p = true := by
  induction l with
  | nil => exact ⟨fun _ => rfl, fun _ => rfl⟩
  | cons c t ih =>
    rw [List.dropWhile_cons, List.all_cons]
    cases h : p c with
    | true => rw [if_pos rfl, Bool.true_and]; exact ih
    | false => rw [if_neg (by decide), Bool.false_and]; exact ⟨fun e => (by cases e), fun e => (by cases e)⟩
theorem reorder {s P t a b c u v z : Nat} (e : t * a * b = c * u * v) : s * (P * t * a) * z * b = s * (P * c * u) * z * v := by
  calc s * (P * t * a) * z * b = s * P * z * (t * a * b) := by ac_rfl
    _ = s * P * z * (c * u * v) := by rw [e]
    _ = s * (P * c * u) * z * v := by ac_rfl
/-- What the cut digits give is the whole's. -/
theorem cut_thousand {T : List UInt8} {m : Nat} {x E : Int} (hTl : T.length = m) (hm : 1000 < m) (hd : Dec T) (hlead : 10 ^ (m - 1) ≤ pv T) (hE : x + (m : Int) - 1001 = E) {d : UInt8} (hdd : d.toNat = rsN T m) {r : Nat}
    (h : Near (2 * (pv (T.take 1000 ++ [d]) * 10 ^ E.toNat) * S1074) (10 ^ (-E).toNat) r) : Near (2 * (pv T * 10 ^ x.toNat) * S1074) (10 ^ (-x).toNat) r := by
  have hs : pv T = pv (T.take 1000) * 10 ^ (m - 1000) + pv (T.drop 1000) := by
    have e := pv_append (T.take 1000) (T.drop 1000)
    rw [List.take_append_drop, List.length_drop, hTl] at e
    exact e
  have hdl := pv_lt (fun c hc => hd c (List.drop_subset _ _ hc) : Dec (T.drop 1000))
  rw [List.length_drop, hTl] at hdl
  have hall : (T.take m).drop 1000 = T.drop 1000 := by rw [List.take_of_length_le (by omega)]
  obtain ⟨P, hP⟩ : ∃ P, pv (T.take 1000) = P := ⟨_, rfl⟩
  rw [hP] at hs
  obtain ⟨q, hq⟩ : ∃ q : Nat, q = 999 := ⟨_, rfl⟩
  have hPb : 10 ^ q ≤ P := by
    rcases Nat.lt_or_ge P (10 ^ q) with hlt | hge
    · exfalso
      have h1 : pv T < (P + 1) * 10 ^ (m - 1000) := by rw [hs, Nat.succ_mul]; omega
      have h2 : (P + 1) * 10 ^ (m - 1000) ≤ 10 ^ q * 10 ^ (m - 1000) := Nat.mul_le_mul_right _ hlt
      rw [← Nat.pow_add, show q + (m - 1000) = m - 1 by omega] at h2
      omega
    · exact hge
  rw [pv_append, hP] at h
  by_cases hz : ((T.take m).drop 1000).all (· == 48) = true
  · have hd48 : d = 48 := UInt8.toNat_inj.1 (by rw [hdd]; unfold rsN; rw [if_pos hz]; rfl)
    have hz0 : pv (T.drop 1000) = 0 := by
      rw [hall] at hz
      rw [← pv_trim]
      have : (T.drop 1000).dropWhile (· == 48) = [] := drop_all.2 hz
      rw [this]
      rfl
    rw [hz0, Nat.add_zero] at hs
    rw [hd48, show pv [48] = 0 by decide, Nat.add_zero, List.length_singleton, Nat.pow_one] at h
    refine near_same (Nat.pow_pos (by omega)) (Nat.pow_pos (by omega)) ?_ h
    rw [hs]
    have e : 10 * 10 ^ E.toNat * 10 ^ (-x).toNat = 10 ^ (m - 1000) * 10 ^ x.toNat * 10 ^ (-E).toNat := by
      rw [← Nat.pow_succ', ← Nat.pow_add, ← Nat.pow_add, ← Nat.pow_add]
      congr 1
      omega
    exact reorder e
  · have hd49 : d = 49 := UInt8.toNat_inj.1 (by rw [hdd]; unfold rsN; rw [if_neg hz]; rfl)
    have hpos : 0 < pv (T.drop 1000) := by
      refine pv_zero_iff (fun c hc => hd c (List.drop_subset _ _ hc)) ?_
      intro e
      rw [hall] at hz
      exact hz (drop_all.1 e)
    rw [hd49, show pv [49] = 1 by decide, List.length_singleton, Nat.pow_one] at h
    obtain ⟨t, ht⟩ : ∃ t : Nat, t = 768 := ⟨_, rfl⟩
    refine near_cut (P := P) (n := P * 10 + 1) (k := 1) (k' := m - 1000) (y := E) (t := t) ht (Nat.le_trans (Nat.pow_le_pow_right (by omega) (by omega)) hPb) (by omega) ?_ ?_ ?_ ?_ h
    · rw [Nat.pow_one]; exact Nat.lt_succ_self _
    · rw [Nat.pow_one, Nat.succ_mul]; omega
    · rw [hs]; omega
    · rw [hs, Nat.succ_mul]; omega
theorem own_empty (w : World) (t : TypeId) : Own .u8 (w.alloc (.cells #[] t)) w.heap.size t (.slice (some ⟨w.heap.size, 0, none⟩) 0 0) [] :=
  own_of_at (R := []) ⟨#[], heap_alloc_new w _, rfl⟩ (Nat.le_refl _) rfl (by decide)
set_option maxRecDepth 100000 in
set_option maxHeartbeats 2000000 in
theorem rvalue_low_long (g o n m k cap : Nat) (ds : List UInt8) (x : Int) (w : World) (hn : ds.length = n) (hk : nz ds = k) (hkm : n = k + m) (hm : 1000 < m) (hm9 : m ≤ 100000) (hcap : n ≤ cap) (hcm : cap ≤ 9223372036854775807) (hx0 : -1000000 ≤ x) (hx9 : x ≤ 1000000) (hd : Dec ds) (hra : Rd .u8 w (some ⟨g, o, none⟩) (cod ds)) (hx : x + (m : Int) < -400) :
    Calls Tryz.prog 41 #[.slice (some ⟨g, o, none⟩) n cap, .int .i64 x] w (RVal w (2 * (pv ds * 10 ^ x.toNat) * S1074) (10 ^ (-x).toNat)) := by
  obtain ⟨i0, hi, hz0, hz1, hz2⟩ := info_parts info_u8
  have hTl : (ds.drop k).length = m := by rw [List.length_drop]; omega
  have HA := Lib.hid (fun (j : Nat) (hj : j < k) => show w.cell? ⟨g, o + j, none⟩ = some (.int .u8 48) by
    rw [rd_cell hra (j := j) (by omega), nz_at (by omega)]
    rfl)
  obtain ⟨z, hz⟩ : ∃ z, (ds[k]'(by omega)).toNat = z := ⟨_, rfl⟩
  have hzc : w.cell? ⟨g, o + k, none⟩ = some (.int .u8 (z : Int)) := by rw [rd_cell hra (j := k) (by omega), hz]
  have hz48 : z ≠ 48 := by
    intro e
    subst hk
    exact nz_stop (l := ds) (by omega) (UInt8.toNat_inj.1 (by rw [hz, e]; rfl))
  have hzb : ((z : Int) == 48) = false := by rw [beq_eq_false_iff_ne]; omega
  have hp := nz_pv ds
  rw [hk] at hp
  have hTd : Dec (ds.drop k) := fun c hc => hd c (List.drop_subset _ _ hc)
  have hlead : 10 ^ (m - 1) ≤ pv (ds.drop k) := by
    have h := lead_ge hd (by omega)
    rwa [hk, hTl] at h
  have hlt := pv_lt hTd
  rw [hTl] at hlt
  rw [hp]
  have hrT : Rd .u8 w (some ⟨g, o + k, none⟩) (cod (ds.drop k)) := rd_drop hra
  obtain ⟨T, hT⟩ : ∃ T, ds.drop k = T := ⟨_, rfl⟩
  rw [hT] at hTl hTd hlead hlt hrT
  rw [hT]
  have HCT := Lib.hid (fun (j : Nat) (hj : j < m) (hj2 : j < T.length) => show w.cell? ⟨g, o + k + j, none⟩ = some (.int .u8 (((T[j]'hj2).toNat : Nat) : Int)) from rd_cell hrT hj2)
  have HTL := Lib.hid hTl
  have HST := Lib.hid (fun (i : Nat) (h1 : 1000 ≤ i) (h2 : i < T.length) => show rsN T (i + 1) = if (T[i]'h2).toNat = 48 then rsN T i else 49 from rsN_step h1 h2)
  have HS0 := Lib.hid (rsN_start T)
  obtain ⟨E, hE⟩ : ∃ E, x + (m : Int) - 1001 = E := ⟨_, rfl⟩
  have hKt : (T.take 1000).length = 1000 := by rw [List.length_take]; omega
  have HNW := Lib.hid (fun (W : World) (hb : Below w.heap.size w W) => show Rd .u8 W (some ⟨g, o + k, none⟩) (cod (T.take 1000)) by
    have h := (hrT.below hb).take 1000
    have e : (cod T).take 1000 = cod (T.take 1000) := List.map_take.symm
    rwa [e] at h)
  have HKd := Lib.hid (show Dec (T.take 1000) from fun c hc => hTd c (List.take_subset _ _ hc))
  have HKL := Lib.hid hKt
  have HZ := Lib.hid (near_low_end (e := x) hlt hx)
  have g1 : E + 1001 < -400 := by omega
  obtain ⟨XX, hXX⟩ : ∃ XX, 2 * (pv T * 10 ^ x.toNat) * S1074 = XX := ⟨_, rfl⟩
  obtain ⟨DD, hDD⟩ : ∃ DD, 10 ^ (-x).toNat = DD := ⟨_, rfl⟩
  rw [hXX, hDD] at HZ ⊢
  have hnk : (n : Int) - (k : Int) = (m : Int) := by omega
  have hnk2 : n - k = m := by omega
  have hck : ¬ cap = k := by omega
  have h1000 : 1000 ≤ cap - k := by omega
  have h1000i : (1000 : Int) ≤ ((cap - k : Nat) : Int) := by omega
  have hEb1 : -2000000 ≤ E := by omega
  have hEb2 : E ≤ 2000000 := by omega
  clear hTl hTd hlead hlt hp hz hz48 hra hd hn hk hT hrT hKt hXX hDD hx
  go_enter Tryz.func41, Tryz.ntmps41
  go_wp2
  go_loop [5] (fun kv => ∃ j : Nat, j ≤ k ∧ kv = .int .i64 (j : Int)) (fun kv => k - (RowKit.intOf kv).toNat)
  case atStart => exact ⟨0, by omega, rfl⟩
  case round =>
    obtain ⟨j, hj, rfl⟩ := hrel
    by_cases hlt : j < k
    · have hcell := HA.out j hlt
      go_wp2_with fail
      go_round
      case rel => exact ⟨j + 1, by omega, by go_num⟩
      case measure => simp [RowKit.intOf]; omega
    · obtain rfl : k = j := by omega
      go_wp2_with fail
      go_loop [6, 7] (fun rv iv => ∃ i r : Nat, 1000 ≤ i ∧ i ≤ m ∧ iv = .int .i64 (i : Int) ∧ rv = .int .u8 (r : Int) ∧ r = rsN T i) (fun _ iv => m - (RowKit.intOf iv).toNat)
      case atStart => exact ⟨1000, 48, by omega, by omega, rfl, rfl, HS0.out.symm⟩
      case round =>
        obtain ⟨i, r, hi1, hi2, rfl, rfl, hr⟩ := hrel
        have HR := Lib.hid hr
        clear hr
        by_cases him : i < m
        · have him2 : i < T.length := by rw [HTL.out]; exact him
          have hcell := HCT.out i him him2
          have hst := HST.out i hi1 him2
          obtain ⟨y, hy⟩ : ∃ y, (T[i]'him2).toNat = y := ⟨_, rfl⟩
          rw [hy] at hcell hst
          have hcell2 : w.cell? ⟨g, o + (k + i), none⟩ = some (.int .u8 (y : Int)) := by rw [← Nat.add_assoc]; exact hcell
          have hyb := hy ▸ UInt8.toNat_lt (T[i]'him2)
          clear hy
          by_cases hy48 : y = 48
          · have hb : ((y : Int) != 48) = false := by rw [bne_eq_false_iff_eq]; omega
            rw [if_pos hy48] at hst
            have HN := Lib.hid (show r = rsN T (i + 1) by rw [hst]; exact HR.out)
            clear hst hy48
            go_wp2_with fail
            go_round
            case rel => exact ⟨i + 1, r, by omega, by omega, by go_num, rfl, HN.out⟩
            case measure => simp [RowKit.intOf]; omega
          · have hb : ((y : Int) != 48) = true := by rw [bne_iff_ne]; omega
            rw [if_neg hy48] at hst
            have HN := Lib.hid hst.symm
            clear hst hy48
            go_wp2_with fail
            go_round
            case rel => exact ⟨i + 1, 49, by omega, by omega, by go_num, rfl, HN.out⟩
            case measure => simp [RowKit.intOf]; omega
        · obtain rfl : m = i := by omega
          have hr2 : r = 48 ∨ r = 49 := by rw [HR.out]; exact rsN_two T _
          have hE0 := own_empty w 5
          have hb1 := (Below.refl w.heap.size w).alloc (Nat.le_refl _) (.cells #[] 5)
          have hsrc := (HNW.out _ (Below.alloc (Below.refl w.heap.size w) (Nat.le_refl _) (.cells #[] 5))).news
          go_wp2_with (at_builtin; refine wpList_append_own _ rfl _ _ 39 rfl w.heap.size 5 i0 (.int .u8 0) 1 1 Tryz.underlying39 hi hz0 hz1 hz2 rfl (by decide) _ 0 [] rfl hE0 ⟨g, o + k, none⟩ 1000 (cap - k) (nums .u8 (cod (T.take 1000))) rfl ?c1 hsrc (nums_one _ _) ?c3 ?c4 ?c5 ?_)
          try (case c1 => rw [nums_len, cod_len]; have := HKL.out; omega)
          try (case c3 => unfold maxLen; omega)
          try (case c4 => omega)
          try (case c5 => simp)
          intro v1 w1 hown1 hgrow1 _
          have hO1 : Own .u8 w1 w.heap.size 5 v1 (cod (T.take 1000)) := by
            unfold Own
            rw [cod_len, HKL.out]
            exact hown1
          have hB1 : Below w.heap.size w w1 := hb1.grown hgrow1 (by simp) (fun z e => (World.ownsRow.lt hE0 z e).1)
          have hown2 := hO1.row (n := 1000) (by rw [cod_len]; exact HKL.out)
          have HO1 := Lib.hid hO1
          have hsz1 := hB1.size
          clear hown1 hgrow1 hO1 hsrc hE0 hb1
          go_wp2_with (at_builtin; refine wpList_append_own _ rfl _ _ 39 rfl w.heap.size 5 i0 (.int .u8 0) 1 1 Tryz.underlying39 hi hz0 hz1 hz2 rfl (by decide) _ 1000 _ rfl (hown2.alloc _) ⟨w1.heap.size, 0, none⟩ 1 1 [.int .u8 (r : Int)] rfl rfl (cell_one_new _ _ _) ?d2 ?d3 ?d4 ?d5 ?_)
          try (case d2 => simp [Value.oneCell'])
          try (case d3 => unfold maxLen; omega)
          try (case d4 => omega)
          try (case d5 => simp; omega)
          intro v2 w2 hown3 hgrow2 _
          have hO2 : Own .u8 w2 w.heap.size 5 v2 (cod (T.take 1000) ++ [r]) := Own.snoc hown3 (by rw [cod_len]; exact HKL.out.symm)
          have hB2 : Below w.heap.size w w2 := (hB1.alloc hsz1 _).grown hgrow2 (by simp; omega) (fun z e => (World.ownsRow.lt HO1.out z e).1)
          obtain ⟨d, hdr⟩ : ∃ d : UInt8, d.toNat = r := hr2.elim (fun h => ⟨48, by rw [h]; rfl⟩) (fun h => ⟨49, by rw [h]; rfl⟩)
          have hcod : cod (T.take 1000) ++ [r] = cod (T.take 1000 ++ [d]) := by rw [← hdr]; simp [cod]
          rw [hcod] at hO2
          have hLl : (T.take 1000 ++ [d]).length = 1001 := by rw [List.length_append, HKL.out]; rfl
          obtain ⟨A2, c2, rfl, hc21, hc22⟩ := hO2.slice
          rw [cod_len, hLl] at hc21
          rw [cod_len, hLl] at hO2 ⊢
          clear hown2 hown3 hgrow2 HO1 hcod hr2 hdr
          go_wp2_with fail
          go_ret
          exact ⟨0, rfl, HZ, hB2⟩
set_option maxRecDepth 100000 in
set_option maxHeartbeats 2000000 in
theorem rvalue_high_long (g o n m k cap : Nat) (ds : List UInt8) (x : Int) (w : World) (hn : ds.length = n) (hk : nz ds = k) (hkm : n = k + m) (hm : 1000 < m) (hm9 : m ≤ 100000) (hcap : n ≤ cap) (hcm : cap ≤ 9223372036854775807) (hx0 : -1000000 ≤ x) (hx9 : x ≤ 1000000) (hd : Dec ds) (hra : Rd .u8 w (some ⟨g, o, none⟩) (cod ds)) (hx : 400 < x + (m : Int)) :
    Calls Tryz.prog 41 #[.slice (some ⟨g, o, none⟩) n cap, .int .i64 x] w (RVal w (2 * (pv ds * 10 ^ x.toNat) * S1074) (10 ^ (-x).toNat)) := by
  obtain ⟨i0, hi, hz0, hz1, hz2⟩ := info_parts info_u8
  have hTl : (ds.drop k).length = m := by rw [List.length_drop]; omega
  have HA := Lib.hid (fun (j : Nat) (hj : j < k) => show w.cell? ⟨g, o + j, none⟩ = some (.int .u8 48) by
    rw [rd_cell hra (j := j) (by omega), nz_at (by omega)]
    rfl)
  obtain ⟨z, hz⟩ : ∃ z, (ds[k]'(by omega)).toNat = z := ⟨_, rfl⟩
  have hzc : w.cell? ⟨g, o + k, none⟩ = some (.int .u8 (z : Int)) := by rw [rd_cell hra (j := k) (by omega), hz]
  have hz48 : z ≠ 48 := by
    intro e
    subst hk
    exact nz_stop (l := ds) (by omega) (UInt8.toNat_inj.1 (by rw [hz, e]; rfl))
  have hzb : ((z : Int) == 48) = false := by rw [beq_eq_false_iff_ne]; omega
  have hp := nz_pv ds
  rw [hk] at hp
  have hTd : Dec (ds.drop k) := fun c hc => hd c (List.drop_subset _ _ hc)
  have hlead : 10 ^ (m - 1) ≤ pv (ds.drop k) := by
    have h := lead_ge hd (by omega)
    rwa [hk, hTl] at h
  have hlt := pv_lt hTd
  rw [hTl] at hlt
  rw [hp]
  have hrT : Rd .u8 w (some ⟨g, o + k, none⟩) (cod (ds.drop k)) := rd_drop hra
  obtain ⟨T, hT⟩ : ∃ T, ds.drop k = T := ⟨_, rfl⟩
  rw [hT] at hTl hTd hlead hlt hrT
  rw [hT]
  have HCT := Lib.hid (fun (j : Nat) (hj : j < m) (hj2 : j < T.length) => show w.cell? ⟨g, o + k + j, none⟩ = some (.int .u8 (((T[j]'hj2).toNat : Nat) : Int)) from rd_cell hrT hj2)
  have HTL := Lib.hid hTl
  have HST := Lib.hid (fun (i : Nat) (h1 : 1000 ≤ i) (h2 : i < T.length) => show rsN T (i + 1) = if (T[i]'h2).toNat = 48 then rsN T i else 49 from rsN_step h1 h2)
  have HS0 := Lib.hid (rsN_start T)
  obtain ⟨E, hE⟩ : ∃ E, x + (m : Int) - 1001 = E := ⟨_, rfl⟩
  have hKt : (T.take 1000).length = 1000 := by rw [List.length_take]; omega
  have HNW := Lib.hid (fun (W : World) (hb : Below w.heap.size w W) => show Rd .u8 W (some ⟨g, o + k, none⟩) (cod (T.take 1000)) by
    have h := (hrT.below hb).take 1000
    have e : (cod T).take 1000 = cod (T.take 1000) := List.map_take.symm
    rwa [e] at h)
  have HKd := Lib.hid (show Dec (T.take 1000) from fun c hc => hTd c (List.take_subset _ _ hc))
  have HKL := Lib.hid hKt
  have HZ := Lib.hid (near_high_end (e := x) hlead (by omega) hx)
  have hfr : ∀ W : World, (callFunc 17 #[.int .u64 9218868437227405312]).run Tryz.prog W = .ok (.value (.float .f64 9218868437227405312)) W := fun W => run_f64from 9218868437227405312 W
  have g1 : ¬ E + 1001 < -400 := by omega
  have g2 : 400 < E + 1001 := by omega
  obtain ⟨XX, hXX⟩ : ∃ XX, 2 * (pv T * 10 ^ x.toNat) * S1074 = XX := ⟨_, rfl⟩
  obtain ⟨DD, hDD⟩ : ∃ DD, 10 ^ (-x).toNat = DD := ⟨_, rfl⟩
  rw [hXX, hDD] at HZ ⊢
  have hnk : (n : Int) - (k : Int) = (m : Int) := by omega
  have hnk2 : n - k = m := by omega
  have hck : ¬ cap = k := by omega
  have h1000 : 1000 ≤ cap - k := by omega
  have h1000i : (1000 : Int) ≤ ((cap - k : Nat) : Int) := by omega
  have hEb1 : -2000000 ≤ E := by omega
  have hEb2 : E ≤ 2000000 := by omega
  clear hTl hTd hlead hlt hp hz hz48 hra hd hn hk hT hrT hKt hXX hDD hx
  go_enter Tryz.func41, Tryz.ntmps41
  go_wp2
  go_loop [5] (fun kv => ∃ j : Nat, j ≤ k ∧ kv = .int .i64 (j : Int)) (fun kv => k - (RowKit.intOf kv).toNat)
  case atStart => exact ⟨0, by omega, rfl⟩
  case round =>
    obtain ⟨j, hj, rfl⟩ := hrel
    by_cases hlt : j < k
    · have hcell := HA.out j hlt
      go_wp2_with fail
      go_round
      case rel => exact ⟨j + 1, by omega, by go_num⟩
      case measure => simp [RowKit.intOf]; omega
    · obtain rfl : k = j := by omega
      go_wp2_with fail
      go_loop [6, 7] (fun rv iv => ∃ i r : Nat, 1000 ≤ i ∧ i ≤ m ∧ iv = .int .i64 (i : Int) ∧ rv = .int .u8 (r : Int) ∧ r = rsN T i) (fun _ iv => m - (RowKit.intOf iv).toNat)
      case atStart => exact ⟨1000, 48, by omega, by omega, rfl, rfl, HS0.out.symm⟩
      case round =>
        obtain ⟨i, r, hi1, hi2, rfl, rfl, hr⟩ := hrel
        have HR := Lib.hid hr
        clear hr
        by_cases him : i < m
        · have him2 : i < T.length := by rw [HTL.out]; exact him
          have hcell := HCT.out i him him2
          have hst := HST.out i hi1 him2
          obtain ⟨y, hy⟩ : ∃ y, (T[i]'him2).toNat = y := ⟨_, rfl⟩
          rw [hy] at hcell hst
          have hcell2 : w.cell? ⟨g, o + (k + i), none⟩ = some (.int .u8 (y : Int)) := by rw [← Nat.add_assoc]; exact hcell
          have hyb := hy ▸ UInt8.toNat_lt (T[i]'him2)
          clear hy
          by_cases hy48 : y = 48
          · have hb : ((y : Int) != 48) = false := by rw [bne_eq_false_iff_eq]; omega
            rw [if_pos hy48] at hst
            have HN := Lib.hid (show r = rsN T (i + 1) by rw [hst]; exact HR.out)
            clear hst hy48
            go_wp2_with fail
            go_round
            case rel => exact ⟨i + 1, r, by omega, by omega, by go_num, rfl, HN.out⟩
            case measure => simp [RowKit.intOf]; omega
          · have hb : ((y : Int) != 48) = true := by rw [bne_iff_ne]; omega
            rw [if_neg hy48] at hst
            have HN := Lib.hid hst.symm
            clear hst hy48
            go_wp2_with fail
            go_round
            case rel => exact ⟨i + 1, 49, by omega, by omega, by go_num, rfl, HN.out⟩
            case measure => simp [RowKit.intOf]; omega
        · obtain rfl : m = i := by omega
          have hr2 : r = 48 ∨ r = 49 := by rw [HR.out]; exact rsN_two T _
          have hE0 := own_empty w 5
          have hb1 := (Below.refl w.heap.size w).alloc (Nat.le_refl _) (.cells #[] 5)
          have hsrc := (HNW.out _ (Below.alloc (Below.refl w.heap.size w) (Nat.le_refl _) (.cells #[] 5))).news
          go_wp2_with (at_builtin; refine wpList_append_own _ rfl _ _ 39 rfl w.heap.size 5 i0 (.int .u8 0) 1 1 Tryz.underlying39 hi hz0 hz1 hz2 rfl (by decide) _ 0 [] rfl hE0 ⟨g, o + k, none⟩ 1000 (cap - k) (nums .u8 (cod (T.take 1000))) rfl ?c1 hsrc (nums_one _ _) ?c3 ?c4 ?c5 ?_)
          try (case c1 => rw [nums_len, cod_len]; have := HKL.out; omega)
          try (case c3 => unfold maxLen; omega)
          try (case c4 => omega)
          try (case c5 => simp)
          intro v1 w1 hown1 hgrow1 _
          have hO1 : Own .u8 w1 w.heap.size 5 v1 (cod (T.take 1000)) := by
            unfold Own
            rw [cod_len, HKL.out]
            exact hown1
          have hB1 : Below w.heap.size w w1 := hb1.grown hgrow1 (by simp) (fun z e => (World.ownsRow.lt hE0 z e).1)
          have hown2 := hO1.row (n := 1000) (by rw [cod_len]; exact HKL.out)
          have HO1 := Lib.hid hO1
          have hsz1 := hB1.size
          clear hown1 hgrow1 hO1 hsrc hE0 hb1
          go_wp2_with (at_builtin; refine wpList_append_own _ rfl _ _ 39 rfl w.heap.size 5 i0 (.int .u8 0) 1 1 Tryz.underlying39 hi hz0 hz1 hz2 rfl (by decide) _ 1000 _ rfl (hown2.alloc _) ⟨w1.heap.size, 0, none⟩ 1 1 [.int .u8 (r : Int)] rfl rfl (cell_one_new _ _ _) ?d2 ?d3 ?d4 ?d5 ?_)
          try (case d2 => simp [Value.oneCell'])
          try (case d3 => unfold maxLen; omega)
          try (case d4 => omega)
          try (case d5 => simp; omega)
          intro v2 w2 hown3 hgrow2 _
          have hO2 : Own .u8 w2 w.heap.size 5 v2 (cod (T.take 1000) ++ [r]) := Own.snoc hown3 (by rw [cod_len]; exact HKL.out.symm)
          have hB2 : Below w.heap.size w w2 := (hB1.alloc hsz1 _).grown hgrow2 (by simp; omega) (fun z e => (World.ownsRow.lt HO1.out z e).1)
          obtain ⟨d, hdr⟩ : ∃ d : UInt8, d.toNat = r := hr2.elim (fun h => ⟨48, by rw [h]; rfl⟩) (fun h => ⟨49, by rw [h]; rfl⟩)
          have hcod : cod (T.take 1000) ++ [r] = cod (T.take 1000 ++ [d]) := by rw [← hdr]; simp [cod]
          rw [hcod] at hO2
          have hLl : (T.take 1000 ++ [d]).length = 1001 := by rw [List.length_append, HKL.out]; rfl
          obtain ⟨A2, c2, rfl, hc21, hc22⟩ := hO2.slice
          rw [cod_len, hLl] at hc21
          rw [cod_len, hLl] at hO2 ⊢
          clear hown2 hown3 hgrow2 HO1 hcod hr2 hdr
          go_wp2_with fail
          go_ret
          exact ⟨_, rfl, HZ, hB2⟩
set_option maxRecDepth 100000 in
set_option maxHeartbeats 2000000 in
theorem rvalue_mid_long (g o n m k cap : Nat) (ds : List UInt8) (x : Int) (w : World) (hn : ds.length = n) (hk : nz ds = k) (hkm : n = k + m) (hm : 1000 < m) (hm9 : m ≤ 100000) (hcap : n ≤ cap) (hcm : cap ≤ 9223372036854775807) (_hx0 : -1000000 ≤ x) (_hx9 : x ≤ 1000000) (hd : Dec ds) (hra : Rd .u8 w (some ⟨g, o, none⟩) (cod ds)) (hx1 : -400 ≤ x + (m : Int)) (hx2 : x + (m : Int) ≤ 400) :
    Calls Tryz.prog 41 #[.slice (some ⟨g, o, none⟩) n cap, .int .i64 x] w (RVal w (2 * (pv ds * 10 ^ x.toNat) * S1074) (10 ^ (-x).toNat)) := by
  obtain ⟨i0, hi, hz0, hz1, hz2⟩ := info_parts info_u8
  have hTl : (ds.drop k).length = m := by rw [List.length_drop]; omega
  have HA := Lib.hid (fun (j : Nat) (hj : j < k) => show w.cell? ⟨g, o + j, none⟩ = some (.int .u8 48) by
    rw [rd_cell hra (j := j) (by omega), nz_at (by omega)]
    rfl)
  obtain ⟨z, hz⟩ : ∃ z, (ds[k]'(by omega)).toNat = z := ⟨_, rfl⟩
  have hzc : w.cell? ⟨g, o + k, none⟩ = some (.int .u8 (z : Int)) := by rw [rd_cell hra (j := k) (by omega), hz]
  have hz48 : z ≠ 48 := by
    intro e
    subst hk
    exact nz_stop (l := ds) (by omega) (UInt8.toNat_inj.1 (by rw [hz, e]; rfl))
  have hzb : ((z : Int) == 48) = false := by rw [beq_eq_false_iff_ne]; omega
  have hp := nz_pv ds
  rw [hk] at hp
  have hTd : Dec (ds.drop k) := fun c hc => hd c (List.drop_subset _ _ hc)
  have hlead : 10 ^ (m - 1) ≤ pv (ds.drop k) := by
    have h := lead_ge hd (by omega)
    rwa [hk, hTl] at h
  have hlt := pv_lt hTd
  rw [hTl] at hlt
  rw [hp]
  have hrT : Rd .u8 w (some ⟨g, o + k, none⟩) (cod (ds.drop k)) := rd_drop hra
  obtain ⟨T, hT⟩ : ∃ T, ds.drop k = T := ⟨_, rfl⟩
  rw [hT] at hTl hTd hlead hlt hrT
  rw [hT]
  have HCT := Lib.hid (fun (j : Nat) (hj : j < m) (hj2 : j < T.length) => show w.cell? ⟨g, o + k + j, none⟩ = some (.int .u8 (((T[j]'hj2).toNat : Nat) : Int)) from rd_cell hrT hj2)
  have HTL := Lib.hid hTl
  have HST := Lib.hid (fun (i : Nat) (h1 : 1000 ≤ i) (h2 : i < T.length) => show rsN T (i + 1) = if (T[i]'h2).toNat = 48 then rsN T i else 49 from rsN_step h1 h2)
  have HS0 := Lib.hid (rsN_start T)
  obtain ⟨E, hE⟩ : ∃ E, x + (m : Int) - 1001 = E := ⟨_, rfl⟩
  have hKt : (T.take 1000).length = 1000 := by rw [List.length_take]; omega
  have HNW := Lib.hid (fun (W : World) (hb : Below w.heap.size w W) => show Rd .u8 W (some ⟨g, o + k, none⟩) (cod (T.take 1000)) by
    have h := (hrT.below hb).take 1000
    have e : (cod T).take 1000 = cod (T.take 1000) := List.map_take.symm
    rwa [e] at h)
  have HKd := Lib.hid (show Dec (T.take 1000) from fun c hc => hTd c (List.take_subset _ _ hc))
  have HKL := Lib.hid hKt
  have HM := Lib.hid (fun (d : UInt8) (hdd : d.toNat = rsN T m) (r : Nat) h => cut_thousand (r := r) hTl hm hTd hlead hE hdd h)
  have g1 : ¬ E + 1001 < -400 := by omega
  have g2 : ¬ 400 < E + 1001 := by omega
  obtain ⟨XX, hXX⟩ : ∃ XX, 2 * (pv T * 10 ^ x.toNat) * S1074 = XX := ⟨_, rfl⟩
  obtain ⟨DD, hDD⟩ : ∃ DD, 10 ^ (-x).toNat = DD := ⟨_, rfl⟩
  rw [hXX, hDD] at HM ⊢
  have hnk : (n : Int) - (k : Int) = (m : Int) := by omega
  have hnk2 : n - k = m := by omega
  have hck : ¬ cap = k := by omega
  have h1000 : 1000 ≤ cap - k := by omega
  have h1000i : (1000 : Int) ≤ ((cap - k : Nat) : Int) := by omega
  have hEb1 : -2000000 ≤ E := by omega
  have hEb2 : E ≤ 2000000 := by omega
  clear hTl hTd hlead hlt hp hz hz48 hra hd hn hk hT hrT hKt hXX hDD hx1 hx2
  go_enter Tryz.func41, Tryz.ntmps41
  go_wp2
  go_loop [5] (fun kv => ∃ j : Nat, j ≤ k ∧ kv = .int .i64 (j : Int)) (fun kv => k - (RowKit.intOf kv).toNat)
  case atStart => exact ⟨0, by omega, rfl⟩
  case round =>
    obtain ⟨j, hj, rfl⟩ := hrel
    by_cases hlt : j < k
    · have hcell := HA.out j hlt
      go_wp2_with fail
      go_round
      case rel => exact ⟨j + 1, by omega, by go_num⟩
      case measure => simp [RowKit.intOf]; omega
    · obtain rfl : k = j := by omega
      go_wp2_with fail
      go_loop [6, 7] (fun rv iv => ∃ i r : Nat, 1000 ≤ i ∧ i ≤ m ∧ iv = .int .i64 (i : Int) ∧ rv = .int .u8 (r : Int) ∧ r = rsN T i) (fun _ iv => m - (RowKit.intOf iv).toNat)
      case atStart => exact ⟨1000, 48, by omega, by omega, rfl, rfl, HS0.out.symm⟩
      case round =>
        obtain ⟨i, r, hi1, hi2, rfl, rfl, hr⟩ := hrel
        have HR := Lib.hid hr
        clear hr
        by_cases him : i < m
        · have him2 : i < T.length := by rw [HTL.out]; exact him
          have hcell := HCT.out i him him2
          have hst := HST.out i hi1 him2
          obtain ⟨y, hy⟩ : ∃ y, (T[i]'him2).toNat = y := ⟨_, rfl⟩
          rw [hy] at hcell hst
          have hcell2 : w.cell? ⟨g, o + (k + i), none⟩ = some (.int .u8 (y : Int)) := by rw [← Nat.add_assoc]; exact hcell
          have hyb := hy ▸ UInt8.toNat_lt (T[i]'him2)
          clear hy
          by_cases hy48 : y = 48
          · have hb : ((y : Int) != 48) = false := by rw [bne_eq_false_iff_eq]; omega
            rw [if_pos hy48] at hst
            have HN := Lib.hid (show r = rsN T (i + 1) by rw [hst]; exact HR.out)
            clear hst hy48
            go_wp2_with fail
            go_round
            case rel => exact ⟨i + 1, r, by omega, by omega, by go_num, rfl, HN.out⟩
            case measure => simp [RowKit.intOf]; omega
          · have hb : ((y : Int) != 48) = true := by rw [bne_iff_ne]; omega
            rw [if_neg hy48] at hst
            have HN := Lib.hid hst.symm
            clear hst hy48
            go_wp2_with fail
            go_round
            case rel => exact ⟨i + 1, 49, by omega, by omega, by go_num, rfl, HN.out⟩
            case measure => simp [RowKit.intOf]; omega
        · obtain rfl : m = i := by omega
          have hr2 : r = 48 ∨ r = 49 := by rw [HR.out]; exact rsN_two T _
          have hE0 := own_empty w 5
          have hb1 := (Below.refl w.heap.size w).alloc (Nat.le_refl _) (.cells #[] 5)
          have hsrc := (HNW.out _ (Below.alloc (Below.refl w.heap.size w) (Nat.le_refl _) (.cells #[] 5))).news
          go_wp2_with (at_builtin; refine wpList_append_own _ rfl _ _ 39 rfl w.heap.size 5 i0 (.int .u8 0) 1 1 Tryz.underlying39 hi hz0 hz1 hz2 rfl (by decide) _ 0 [] rfl hE0 ⟨g, o + k, none⟩ 1000 (cap - k) (nums .u8 (cod (T.take 1000))) rfl ?c1 hsrc (nums_one _ _) ?c3 ?c4 ?c5 ?_)
          try (case c1 => rw [nums_len, cod_len]; have := HKL.out; omega)
          try (case c3 => unfold maxLen; omega)
          try (case c4 => omega)
          try (case c5 => simp)
          intro v1 w1 hown1 hgrow1 _
          have hO1 : Own .u8 w1 w.heap.size 5 v1 (cod (T.take 1000)) := by
            unfold Own
            rw [cod_len, HKL.out]
            exact hown1
          have hB1 : Below w.heap.size w w1 := hb1.grown hgrow1 (by simp) (fun z e => (World.ownsRow.lt hE0 z e).1)
          have hown2 := hO1.row (n := 1000) (by rw [cod_len]; exact HKL.out)
          have HO1 := Lib.hid hO1
          have hsz1 := hB1.size
          clear hown1 hgrow1 hO1 hsrc hE0 hb1
          go_wp2_with (at_builtin; refine wpList_append_own _ rfl _ _ 39 rfl w.heap.size 5 i0 (.int .u8 0) 1 1 Tryz.underlying39 hi hz0 hz1 hz2 rfl (by decide) _ 1000 _ rfl (hown2.alloc _) ⟨w1.heap.size, 0, none⟩ 1 1 [.int .u8 (r : Int)] rfl rfl (cell_one_new _ _ _) ?d2 ?d3 ?d4 ?d5 ?_)
          try (case d2 => simp [Value.oneCell'])
          try (case d3 => unfold maxLen; omega)
          try (case d4 => omega)
          try (case d5 => simp; omega)
          intro v2 w2 hown3 hgrow2 _
          have hO2 : Own .u8 w2 w.heap.size 5 v2 (cod (T.take 1000) ++ [r]) := Own.snoc hown3 (by rw [cod_len]; exact HKL.out.symm)
          have hB2 : Below w.heap.size w w2 := (hB1.alloc hsz1 _).grown hgrow2 (by simp; omega) (fun z e => (World.ownsRow.lt HO1.out z e).1)
          obtain ⟨d, hdr⟩ : ∃ d : UInt8, d.toNat = r := hr2.elim (fun h => ⟨48, by rw [h]; rfl⟩) (fun h => ⟨49, by rw [h]; rfl⟩)
          have hcod : cod (T.take 1000) ++ [r] = cod (T.take 1000 ++ [d]) := by rw [← hdr]; simp [cod]
          rw [hcod] at hO2
          have hLl : (T.take 1000 ++ [d]).length = 1001 := by rw [List.length_append, HKL.out]; rfl
          obtain ⟨A2, c2, rfl, hc21, hc22⟩ := hO2.slice
          rw [cod_len, hLl] at hc21
          rw [cod_len, hLl] at hO2 ⊢
          obtain ⟨g2, rfl, hg2⟩ := hO2.addr (by rw [cod_len, hLl]; omega)
          have hcv := conv_rd w2 g2 0 c2 (T.take 1000 ++ [d]) hO2.rd
          rw [hLl] at hcv
          obtain ⟨LB, hLB⟩ : ∃ LB : ByteArray, (⟨(T.take 1000 ++ [d]).toArray⟩ : ByteArray) = LB := ⟨_, rfl⟩
          have hLBl : LB.data.toList = T.take 1000 ++ [d] := by rw [← hLB]
          rw [hLB] at hcv
          have cR := rread_end LB E w2 (by rw [← ba_len, hLBl, hLl]; omega) (isDec_iff.2 ⟨by rw [← ba_len, hLBl, hLl]; omega, by
            rw [hLBl]
            intro c hc
            rcases List.mem_append.1 hc with h | h
            · exact HKd.out c h
            · rw [List.mem_singleton.1 h, hdr]
              omega⟩)
          rw [hLBl] at cR
          have CR := Lib.hid cR
          have HMM := Lib.hid (fun r0 h => HM.out d (by rw [hdr]; exact HR.out) r0 h)
          clear hown2 hown3 hgrow2 HO1 hcod hr2 hdr cR hLBl hLB hO2
          go_wp2_with fail
          refine CR.out.mono ?_
          rintro e w3 ⟨r0, rfl, hr0, hB3⟩
          have hB4 := hB2.trans (hB3.mono hB2.size)
          have HF := Lib.hid (HMM.out r0 hr0.out)
          clear hr0 hB3
          go_wp2_with fail
          go_ret
          exact ⟨r0, rfl, HF, hB4⟩
end Go.Proofs.YtlpobomlnlakcaaGreatDoor

namespace Go.Proofs.YtlpobomlnlakcaaGreatDoor
open Go.RowKit Go.Lib

theorem rvalue_any (A : Option Addr) (n cap : Nat) (ds : List UInt8) (x : Int) (w : World) (hn : ds.length = n) (hn9 : n ≤ 100000) (hcap : n ≤ cap) (hcm : cap ≤ 9223372036854775807) (hx0 : -1000000 ≤ x) (hx9 : x ≤ 1000000) (hd : Dec ds) (hra : Rd .u8 w A (cod ds)) :
    Calls Tryz.prog 41 #[.slice A n cap, .int .i64 x] w (RVal w (2 * (pv ds * 10 ^ x.toNat) * S1074) (10 ^ (-x).toNat)) := by
  have hl := nz_le ds
  by_cases hz : nz ds = n
  · refine rvalue_zero A n cap ds x w hn hcap hcm hra hz _ _ ?_ (Nat.pow_pos (by omega))
    rw [nz_pv, hz, ← hn, List.drop_length]
    show 2 * (0 * _) * S1074 = 0
    rw [Nat.zero_mul, Nat.mul_zero, Nat.zero_mul]
  · obtain ⟨g, o, rfl, -⟩ := hra 0 (by rw [cod_len]; omega)
    obtain ⟨m, hm⟩ : ∃ m, n = nz ds + m := ⟨n - nz ds, by omega⟩
    rcases (by omega : x + (m : Int) < -400 ∨ 400 < x + (m : Int) ∨ (-400 ≤ x + (m : Int) ∧ x + (m : Int) ≤ 400)) with h | h | ⟨h, h'⟩
    · by_cases h1 : m ≤ 1000
      · exact rvalue_low g o n m _ cap ds x w hn rfl hm (by omega) h1 hcap hcm hx0 hx9 hd hra h
      · exact rvalue_low_long g o n m _ cap ds x w hn rfl hm (by omega) (by omega) hcap hcm hx0 hx9 hd hra h
    · by_cases h1 : m ≤ 1000
      · exact rvalue_high g o n m _ cap ds x w hn rfl hm (by omega) h1 hcap hcm hx0 hx9 hd hra h
      · exact rvalue_high_long g o n m _ cap ds x w hn rfl hm (by omega) (by omega) hcap hcm hx0 hx9 hd hra h
    · by_cases h1 : m ≤ 1000
      · exact rvalue_mid g o n m _ cap ds x w hn rfl hm (by omega) h1 hcap hcm hx0 hx9 hd hra h h'
      · exact rvalue_mid_long g o n m _ cap ds x w hn rfl hm (by omega) (by omega) hcap hcm hx0 hx9 hd hra h h'
theorem drop_head {p : UInt8 → Bool} {l t : List UInt8} {c : UInt8} (h : l.dropWhile p = c :: t) : p c = false := by
  induction l with
  | nil => cases h
  | cons d l ih =>
    rw [List.dropWhile_cons] at h
    cases hp : p d with
    | true => rw [hp, if_pos rfl] at h; exact ih h
    | false =>
      rw [hp, if_neg (by decide)] at h
      rw [← (List.cons.inj h).1]
      exact hp
theorem run_take (S : List UInt8) (p : Nat) : (S.drop p).take (nDig (S.drop p)) = (S.drop p).takeWhile isD := nDig_take _
theorem run_snoc {S : List UInt8} {p j : Nat} (h : p + j < S.length) : (S.drop p).take (j + 1) = (S.drop p).take j ++ [S[p + j]] := by
  have h2 : j < (S.drop p).length := by rw [List.length_drop]; omega
  have e : (S.drop p).take (j + 1) = (S.drop p).take j ++ [(S.drop p)[j]] := List.take_succ_eq_append_getElem h2
  rw [e, List.getElem_drop]
/-- A run of digits from a place on. -/
theorem dig_run (S : List UInt8) (p : Nat) : (∀ j, j < nDig (S.drop p) → digAt S (p + j) = true) ∧ digAt S (p + nDig (S.drop p)) = false := by
  obtain ⟨l, hl⟩ : ∃ l, S.drop p = l := ⟨_, rfl⟩
  have hg : ∀ j, S[p + j]? = l[j]? := fun j => by rw [← hl, List.getElem?_drop]
  rw [hl]
  constructor
  · intro j hj
    unfold digAt
    rw [hg]
    have hjl : j < l.length := Nat.lt_of_lt_of_le hj (nDig_le l)
    rw [List.getElem?_eq_getElem hjl]
    have hj2 : j < (l.takeWhile isD).length := hj
    have h1 : (l.takeWhile isD)[j]? = l[j]? := by
      rw [← nDig_take, List.getElem?_take, if_pos hj]
    rw [List.getElem?_eq_getElem hj2, List.getElem?_eq_getElem hjl] at h1
    rw [← Option.some.inj h1]
    show isD _ = true
    exact List.all_eq_true.1 (List.all_takeWhile (p := isD) (l := l)) _ (List.getElem_mem hj2)
  · unfold digAt
    rw [hg]
    cases h : l[nDig l]? with
    | none => rfl
    | some c =>
      have h1 := nDig_drop l
      obtain ⟨hlt, he⟩ := List.getElem?_eq_some_iff.1 h
      rw [List.drop_eq_getElem_cons hlt, he] at h1
      show isD c = false
      exact drop_head h1.symm
end Go.Proofs.YtlpobomlnlakcaaGreatDoor
