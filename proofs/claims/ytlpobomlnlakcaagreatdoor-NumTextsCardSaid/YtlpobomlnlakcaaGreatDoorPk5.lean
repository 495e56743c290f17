/- Several texts in one (Contracts of layer 3: what its laws share: naturals as floats, digits; Contracts of layer 4: cutDigits, count, cutSign, hexDigit; Contracts of layer 4: cutSign, hexDigit, Trunc; Contracts of layer 4: Trunc; Plain: floats by a mantissa of 53 digits; exact differences; one step of what is left. No walk here; Contracts of layer 4: cutHex; Contracts of layer 4: cutExp). -/
import Derived.WalkSpells
import Derived.Deep.QuietTactic
import Derived.BigQuiet
import Derived.Test.YtlpobomlnlakcaaGreatDoorPk4
namespace Go.Proofs.YtlpobomlnlakcaaGreatDoor
open Go.RowKit Go.Lib

theorem near_strict {X D r : Nat} (h1 : ∀ q, r = q + 1 → (V q + V r) * D < X) (h2 : X < (V r + V (r + 1)) * D) (ht : r ≤ 9218868437227405312) : Near X D r :=
  ⟨fun q hq => Nat.le_of_lt (h1 q hq), fun q hq e => absurd e (Nat.ne_of_lt (h1 q hq)), fun _ => Nat.le_of_lt h2, fun _ e => absurd e (Nat.ne_of_lt h2), ht⟩
def exB (X D a b c : Nat) : Bool := decide ((a + b) * D < X) && decide (X < (b + c) * D)
theorem near_exB {X D q : Nat} (h : exB X D (V q) (V (q + 1)) (V (q + 1 + 1)) = true) (ht : q + 1 ≤ 9218868437227405312) : Near X D (q + 1) := by
  unfold exB at h
  rw [Bool.and_eq_true, decide_eq_true_eq, decide_eq_true_eq] at h
  refine near_strict (fun r hr => ?_) h.2 ht
  obtain rfl : r = q := Nat.succ.inj hr.symm
  exact h.1
def sciB (N D p : Nat) (P : Int) (M : Nat) : Bool := M == sciM N D ((p : Int) - P) && Nat.ble (10 ^ p) M && Nat.blt M (10 ^ (p + 1)) && Nat.ble (10 ^ (p + 1)) (sciM N D ((p : Int) - P + 1))
theorem sciB_ok {N D p : Nat} {P : Int} {M : Nat} (h : sciB N D p P M = true) (hb : -400 ≤ P ∧ P ≤ 400) : SciOk N D p P M := by
  unfold sciB at h
  simp only [Bool.and_eq_true, beq_iff_eq] at h
  obtain ⟨⟨⟨h1, h2⟩, h3⟩, h4⟩ := h
  exact ⟨h1, Nat.le_of_ble_eq_true h2, Nat.le_of_ble_eq_true h3, Nat.le_of_ble_eq_true h4, hb⟩
theorem V_am {r : Nat} : V r * amD r = amN r * S1074 := by
  obtain ⟨c, hc⟩ : ∃ c : Nat, c = 1074 := ⟨_, rfl⟩
  rw [← val_V, Nat.shiftLeft_eq, amN, amD, S_eq c hc, Nat.mul_assoc, Nat.mul_assoc, ← Nat.pow_add, ← Nat.pow_add]
  have := expF_lo r
  rw [show (expF r - -1074).toNat + (-expF r).toNat = (expF r).toNat + c by omega]
theorem S_pos : 0 < S1074 := by
  obtain ⟨c, hc⟩ : ∃ c : Nat, c = 1074 := ⟨_, rfl⟩
  rw [S_eq c hc]
  exact Nat.pow_pos (by omega)
theorem am_fw {m : Nat} (h : m < 9007199254740992) : amN (fw m) = m * amD (fw m) := by
  have h1 := V_am (r := fw m)
  rw [fw_V h] at h1
  refine Nat.eq_of_mul_eq_mul_right S_pos ?_
  rw [← h1]
  generalize S1074 = z
  ac_rfl
theorem rnd_exact (q D : Nat) (hD : 0 < D) : rnd (q * D) D = q := by
  rw [rnd, Nat.mul_div_cancel _ hD, Nat.mul_mod_left, if_neg (by omega)]
theorem decs_zeros {n : Nat} (h : 0 < n) (p : Nat) : decs (n * 10 ^ p) = decs n ++ List.replicate p 48 := by
  induction p with
  | zero => simp
  | succ p ih =>
    have h1 : 0 < n * 10 ^ p := Nat.mul_pos h (Nat.pow_pos (by omega))
    rw [Nat.pow_succ, ← Nat.mul_assoc, decs_step (by omega), Nat.mul_div_cancel _ (by omega), Nat.mul_mod_left, ih, List.replicate_succ', List.append_assoc]
    rfl
theorem fix_whole (n p : Nat) (hp : 0 < p) : fixT (decs (n * 10 ^ p)) p = decs n ++ 46 :: List.replicate p 48 := by
  rw [fixT, if_neg (by omega)]
  have key : padT (decs (n * 10 ^ p)) p = decs n ++ List.replicate p 48 := by
    rcases Nat.eq_zero_or_pos n with rfl | h
    · rw [Nat.zero_mul, padT, decs_zero]
      show List.replicate (p + 1 - 1) 48 ++ [48] = [48] ++ List.replicate p 48
      rw [Nat.add_sub_cancel, ← List.replicate_succ']
      rfl
    · have hl : 1 ≤ (decs n).length := by
        rcases Nat.eq_zero_or_pos (decs n).length with h0 | h0
        · have := (decs_le (n := n) (k := 1) (by omega)).1 (by omega)
          rw [decs_one (by omega)] at h0
          exact absurd h0 (by simp)
        · exact h0
      rw [decs_zeros h, padT, List.length_append, List.length_replicate, show p + 1 - ((decs n).length + p) = 0 by omega]
      rfl
  rw [key, List.length_append, List.length_replicate, Nat.add_sub_cancel, List.take_left', List.drop_left'] <;> rfl
theorem pv_noughts (k : Nat) (l : List UInt8) : pv (List.replicate k 48 ++ l) = pv l := by
  rw [pv_append, pv_zeros, Nat.zero_mul, Nat.zero_add]
theorem pv_decs (n : Nat) : pv (decs n) = n := by
  induction n using Nat.strongRecOn with
  | _ n ih =>
    rw [← ahead_step, pv_snoc]
    unfold ahead
    split
    · rw [db_toNat (by omega)]
      simp [pv]
      omega
    · rw [ih _ (by omega), db_toNat (Nat.mod_lt _ (by omega))]
      omega
theorem dec_decs (n : Nat) : Dec (decs n) := by
  induction n using Nat.strongRecOn with
  | _ n ih =>
    rw [← ahead_step]
    intro c hc
    rcases List.mem_append.1 hc with h | h
    · unfold ahead at h
      split at h
      · exact absurd h (by simp)
      · exact ih _ (by omega) c h
    · rw [List.mem_singleton.1 h, db_toNat (Nat.mod_lt _ (by omega))]
      omega
theorem dec_noughts (k : Nat) : Dec (List.replicate k (48 : UInt8)) := fun c hc => by
  rw [(List.mem_replicate.1 hc).2]
  decide
/-- The number that is read, where the exact value is a natural below 2^53. -/
theorem near_fw {m a r : Nat} {D : Nat} (hm : m < 9007199254740992) (hD : 0 < D) (ha : a = m * D) (h : Near (2 * a * S1074) D r) : r = fw m := by
  have hs := Near.self (r := fw m) (by have := fw_bd hm; omega)
  rw [fw_V hm] at hs
  refine h.uniq hD (by omega) ?_ hs
  rw [ha]
  generalize S1074 = z
  ac_rfl
/-- Digits and a nought behind them, with the power one less. -/
theorem near_shift {n r r' : Nat} {x : Int} (h : Near (2 * (n * 10 ^ x.toNat) * S1074) (10 ^ (-x).toNat) r) (h' : Near (2 * (n * 10 * 10 ^ (x - 1).toNat) * S1074) (10 ^ (-(x - 1)).toNat) r') : r = r' := by
  refine h.uniq (Nat.pow_pos (by omega)) (Nat.pow_pos (by omega)) ?_ h'
  have e : 10 ^ x.toNat * 10 ^ (-(x - 1)).toNat = 10 * 10 ^ (x - 1).toNat * 10 ^ (-x).toNat := by
    rw [← Nat.pow_succ', ← Nat.pow_add, ← Nat.pow_add]
    congr 1
    omega
  generalize S1074 = z
  calc 2 * (n * 10 ^ x.toNat) * z * 10 ^ (-(x - 1)).toNat = 2 * n * z * (10 ^ x.toNat * 10 ^ (-(x - 1)).toNat) := by ac_rfl
    _ = 2 * n * z * (10 * 10 ^ (x - 1).toNat * 10 ^ (-x).toNat) := by rw [e]
    _ = 2 * (n * 10 * 10 ^ (x - 1).toNat) * z * 10 ^ (-x).toNat := by ac_rfl
theorem near_mono {n m r s : Nat} {x : Int} (hnm : n ≤ m) (h : Near (2 * (n * 10 ^ x.toNat) * S1074) (10 ^ (-x).toNat) r) (h' : Near (2 * (m * 10 ^ x.toNat) * S1074) (10 ^ (-x).toNat) s) : r ≤ s :=
  h.le (Nat.pow_pos (by omega)) (Nat.pow_pos (by omega)) (Nat.mul_le_mul_right _ (Nat.mul_le_mul_right _ (Nat.mul_le_mul_left _ (Nat.mul_le_mul_right _ hnm)))) h'
/-- What Read answers, with a name for the float. -/
def ReadEnd (w : World) (X D : Nat) (e : Ending) (w' : World) : Prop := ∃ r, e = .returned (.tuple #[.float .f64 r, .int .i64 0]) ∧ Hid (Near X D r) ∧ Below w.heap.size w w'
theorem read_end (s : ByteArray) (n : Nat) (x : Int) (w : World) (hs : s.size ≤ 1024) (hd : isDec s = true) (hn : pv s.data.toList = n) :
    Calls Tryz.prog 49 #[.string s, .int .i64 x] w (ReadEnd w (2 * (n * 10 ^ x.toNat) * S1074) (10 ^ (-x).toNat)) := by
  refine (read_yes s x w hs hd).mono ?_
  rintro e w' ⟨⟨r, rfl, h⟩, hB⟩
  rw [hn] at h
  exact ⟨r, rfl, Lib.hid h, hB⟩
theorem decs_len_of {M p : Nat} (h1 : 10 ^ p ≤ M) (h2 : M < 10 ^ (p + 1)) : (decs M).length = p + 1 := by
  have a := (decs_le (n := M) (k := p + 1) (by omega)).2 h2
  rcases Nat.eq_zero_or_pos p with rfl | hp
  · have : 1 ≤ (decs M).length := by rw [← ahead_step, List.length_append]; simp
    omega
  · rcases Nat.lt_or_ge p (decs M).length with h3 | h3
    · omega
    · exact absurd ((decs_le hp).1 h3) (by omega)
end Go.Proofs.YtlpobomlnlakcaaGreatDoor

namespace Go.Proofs.YtlpobomlnlakcaaGreatDoor
open Go.RowKit Go.Lib

/-- Is it a decimal digit? -/
def isD (c : UInt8) : Bool := decide (48 ≤ c.toNat) && decide (c.toNat ≤ 57)
theorem isD_iff {c : UInt8} : isD c = true ↔ 48 ≤ c.toNat ∧ c.toNat ≤ 57 := by simp [isD]
/-- How many digits a text begins with. -/
def nDig (l : List UInt8) : Nat := (l.takeWhile isD).length
theorem nDig_at {l : List UInt8} {k : Nat} (hk : k ≤ l.length) (h : ∀ j (hj : j < l.length), j < k → isD l[j] = true) (hs : ∀ hj : k < l.length, isD l[k] = false) : nDig l = k := by
  induction l generalizing k with
  | nil => simp at hk; subst hk; rfl
  | cons c l ih =>
    rcases Nat.eq_zero_or_pos k with rfl | hk0
    · have := hs (by simp)
      simp only [List.getElem_cons_zero] at this
      unfold nDig
      rw [List.takeWhile_cons, this]
      rfl
    · obtain ⟨k, rfl⟩ : ∃ m, k = m + 1 := ⟨k - 1, by omega⟩
      have hc := h 0 (by simp) (by omega)
      simp only [List.getElem_cons_zero] at hc
      have := ih (k := k) (by simpa using hk) (fun j hj hjk => by have := h (j + 1) (by simpa using hj) (by omega); simpa using this) (fun hj => by have := hs (by simpa using hj); simpa using this)
      unfold nDig at this ⊢
      rw [List.takeWhile_cons, hc]
      simp [this]
theorem nDig_le (l : List UInt8) : nDig l ≤ l.length := (List.takeWhile_prefix isD).length_le
theorem ba_byte (S : ByteArray) {l : List UInt8} (h : S.data.toList = l) (j : Nat) (hj : j < S.size) : l[j]? = some (S[j]'hj) := by
  rw [← h, Array.getElem?_toList, Array.getElem?_eq_getElem hj]
  rfl
set_option maxRecDepth 100000 in
set_option maxHeartbeats 2000000 in
theorem cutDigits_any (s : ByteArray) (w : World) (hs : s.size ≤ 4611686018427387904) :
    Calls Tryz.prog 52 #[.string s] w fun e w' => e = .returned (.tuple #[.string (s.extract 0 (nDig s.data.toList)), .string (s.extract (nDig s.data.toList) s.size)]) ∧ Below w.heap.size w w' := by
  obtain ⟨l, hl⟩ : ∃ l, s.data.toList = l := ⟨_, rfl⟩
  have hlen : l.length = s.size := by rw [← hl, ba_len]
  have HBY := Lib.hid (fun j hj => ba_byte s hl j hj)
  rw [hl]
  have HLEN := Lib.hid hlen
  clear hl hlen
  go_enter Tryz.func52, Tryz.ntmps52
  go_wp2
  go_loop [4] (fun iv => ∃ k : Nat, iv = .int .i64 (k : Int) ∧ k ≤ s.size ∧ ∀ j (hj : j < l.length), j < k → isD l[j] = true) (fun iv => s.size - (RowKit.intOf iv).toNat)
  case atStart => exact ⟨0, rfl, Nat.zero_le _, fun j _ hj => absurd hj (Nat.not_lt_zero j)⟩
  case round =>
    obtain ⟨k, rfl, hk, h0⟩ := hrel
    have H0 := Lib.hid h0
    clear h0
    have g0 : (0 : Int) ≤ (k : Int) := by omega
    have g1 : (k : Int) ≤ (s.size : Int) := by omega
    by_cases hlt : k < s.size
    · obtain ⟨z, hz⟩ : ∃ z, (s[k]'hlt).toNat = z := ⟨_, rfl⟩
      have hzi : ((s[k]'hlt).toNat : Int) = (z : Int) := by omega
      have hby : ∀ hj : k < l.length, l[k] = s[k]'hlt := fun hj => by
        have h := HBY.out k hlt
        rw [List.getElem?_eq_getElem hj] at h
        exact Option.some.inj h
      have HBK := Lib.hid hby
      have HZ := Lib.hid hz
      clear hby hz
      by_cases hd : 48 ≤ z ∧ z ≤ 57
      · obtain ⟨d1, d2⟩ := hd
        have d1i : (48 : Int) ≤ (z : Int) := by omega
        have d2i : (z : Int) ≤ 57 := by omega
        go_wp2_with fail
        go_round
        case rel => exact ⟨k + 1, by go_num, by omega, fun j hj hjk => by
          rcases Nat.lt_or_ge j k with h | h
          · exact H0.out j hj h
          · obtain rfl : j = k := by omega
            rw [HBK.out hj, isD_iff, HZ.out]
            exact ⟨d1, d2⟩⟩
        case measure => simp [RowKit.intOf]; omega
      · have HN := Lib.hid (show nDig l = k from nDig_at (by rw [HLEN.out]; exact hk) H0.out (fun hj => by
          rw [HBK.out hj]
          cases hc : isD (s[k]'hlt) with
          | false => rfl
          | true => rw [isD_iff, HZ.out] at hc; exact absurd hc hd))
        have hcase : ¬ (48 : Int) ≤ (z : Int) ∨ ((48 : Int) ≤ (z : Int) ∧ ¬ (z : Int) ≤ 57) := by omega
        clear hd
        rcases hcase with h1 | ⟨h1, h2⟩
        all_goals
          go_wp2_with fail
          go_quiet (fail)
          go_wp2_with fail
          go_ret2
          exact ⟨by rw [HN.out]; rfl, below_drewN (Below.refl _ _) _⟩
    · have HN := Lib.hid (show nDig l = k from nDig_at (by rw [HLEN.out]; exact hk) H0.out (fun hj => by have := HLEN.out; omega))
      go_wp2_with fail
      go_quiet (fail)
      go_wp2_with fail
      go_ret2
      exact ⟨by rw [HN.out]; rfl, below_drewN (Below.refl _ _) _⟩
/-- The number that digits write, or the bound, if that is less. -/
def cntZ (l : List UInt8) (b : Nat) : Nat := min (pv l) b
theorem cnt_step {a b p d : Nat} (hd : d ≤ 9) (h : a = min p b) : min (a * 10 + d) b = min (p * 10 + d) b := by
  subst h
  rcases Nat.le_total p b with h | h
  · rw [Nat.min_eq_left h]
  · rw [Nat.min_eq_right h, Nat.min_eq_right (by omega), Nat.min_eq_right (by omega)]
set_option maxRecDepth 100000 in
set_option maxHeartbeats 2000000 in
theorem count_any (s : ByteArray) (b : Nat) (w : World) (hs : s.size ≤ 4611686018427387904) (hd : Dec s.data.toList) (hb : b ≤ 1099511627776) :
    Calls Tryz.prog 80 #[.string s, .int .i64 (b : Int)] w fun e w' => e = .returned (.int .i64 (cntZ s.data.toList b : Nat)) ∧ w = w' := by
  obtain ⟨l, hl⟩ : ∃ l, s.data.toList = l := ⟨_, rfl⟩
  have hlen : l.length = s.size := by rw [← hl, ba_len]
  have HBY := Lib.hid (fun j hj => ba_byte s hl j hj)
  rw [hl] at hd ⊢
  have HLEN := Lib.hid hlen
  have HD := Lib.hid hd
  clear hl hlen hd
  go_enter Tryz.func80, Tryz.ntmps80
  go_wp2
  go_loop [5, 9] (fun nv iv => ∃ k a : Nat, iv = .int .i64 (k : Int) ∧ nv = .int .i64 (a : Int) ∧ k ≤ s.size ∧ a = min (pv (l.take k)) b) (fun _ iv => s.size - (RowKit.intOf iv).toNat)
  case atStart => exact ⟨0, 0, rfl, rfl, Nat.zero_le _, by rw [List.take_zero, pv_nil, Nat.zero_min]⟩
  case round =>
    obtain ⟨k, a, rfl, rfl, hk, ha⟩ := hrel
    have hab : a ≤ b := by omega
    have HA := Lib.hid ha
    clear ha
    by_cases hlt : k < s.size
    · obtain ⟨z, hz⟩ : ∃ z, (s[k]'hlt).toNat = z := ⟨_, rfl⟩
      have hkl : k < l.length := by rw [HLEN.out]; exact hlt
      have hby : l[k] = s[k]'hlt := by
        have h := HBY.out k hlt
        rw [List.getElem?_eq_getElem hkl] at h
        exact Option.some.inj h
      have hzb := HD.out (s[k]'hlt) (by rw [← hby]; exact List.getElem_mem _)
      rw [hz] at hzb
      obtain ⟨z1, z2⟩ := hzb
      have hzi : ((s[k]'hlt).toNat : Int) = (z : Int) := by omega
      obtain ⟨m, hm⟩ : ∃ m : Nat, min ((a : Int) * 10 + ((z : Int) - 48)) (b : Int) = (m : Int) := ⟨(min ((a : Int) * 10 + ((z : Int) - 48)) (b : Int)).toNat, by omega⟩
      have HM := Lib.hid (show m = min (pv (l.take (k + 1))) b by
        have e : l.take (k + 1) = l.take k ++ [l[k]] := List.take_succ_eq_append_getElem hkl
        rw [e, pv_snoc, hby, hz, ← cnt_step (a := a) (by omega) HA.out]
        omega)
      clear hby hz
      go_wp2_with fail
      go_round
      case rel => exact ⟨k + 1, m, by go_num, rfl, by omega, HM.out⟩
      case measure => simp [RowKit.intOf]; omega
    · have HE := Lib.hid (show a = cntZ l b by
        have h := HA.out
        rw [List.take_of_length_le (by rw [HLEN.out]; omega)] at h
        exact h)
      go_wp2_with fail
      go_ret
      exact ⟨by rw [HE.out]; rfl, rfl⟩
end Go.Proofs.YtlpobomlnlakcaaGreatDoor

namespace Go.Proofs.YtlpobomlnlakcaaGreatDoor
open Go.RowKit Go.Lib

/-- Is there a minus ahead, and what stands behind the sign? -/
def sgnL : List UInt8 → Bool × List UInt8
  | 45 :: l => (true, l)
  | 43 :: l => (false, l)
  | l => (false, l)
theorem pre_one (c : UInt8) (l : List UInt8) : Lib.hasPrefix l [c] = (l.head? == some c) := by
  cases l with
  | nil => rfl
  | cons x l => simp [Lib.hasPrefix, List.isPrefixOf, Bool.beq_comm]
set_option maxRecDepth 100000 in
set_option maxHeartbeats 1000000 in
theorem cutSign_any (s : ByteArray) (w : World) : Calls Tryz.prog 48 #[.string s] w fun e w' => e = .returned (.tuple #[.bool (sgnL s.data.toList).1, .string ⟨(sgnL s.data.toList).2.toArray⟩]) ∧ w = w' := by
  have c1 := fun W => Tryz.strings_CutPrefix s ⟨#[45]⟩ W
  have c2 := fun W => Tryz.strings_TrimPrefix s ⟨#[43]⟩ W
  obtain ⟨l, hl⟩ : ∃ l, s.data.toList = l := ⟨_, rfl⟩
  rw [hl] at c1 c2 ⊢
  change ∀ W : World, Calls Tryz.prog 53 #[.string s, .string ⟨#[45]⟩] W fun e w' => e = .returned (.tuple #[.string ⟨(Lib.trimPrefix l [45]).toArray⟩, .bool (Lib.hasPrefix l [45])]) ∧ w' = W at c1
  change ∀ W : World, Calls Tryz.prog 70 #[.string s, .string ⟨#[43]⟩] W fun e w' => e = .returned (.string ⟨(Lib.trimPrefix l [43]).toArray⟩) ∧ w' = W at c2
  unfold Lib.trimPrefix at c1
  rw [pre_one] at c1
  by_cases h1 : l.head? = some 45
  · obtain ⟨t, rfl⟩ : ∃ t, l = 45 :: t := by cases l with | nil => cases h1 | cons x t => exact ⟨t, by rw [Option.some.inj h1]⟩
    have C1 := Lib.hid (show ∀ W : World, Calls Tryz.prog 53 #[.string s, .string ⟨#[45]⟩] W fun e w' => e = .returned (.tuple #[.string ⟨t.toArray⟩, .bool true]) ∧ w' = W from c1)
    have HR := Lib.hid (show sgnL (45 :: t) = (true, t) from rfl)
    clear c1 c2 h1
    go_enter Tryz.func48, Tryz.ntmps48
    go_wp2_with fail
    refine (C1.out _).mono ?_
    rintro e w' ⟨rfl, rfl⟩
    go_wp2_with fail
    go_ret2
    exact ⟨by rw [HR.out]; rfl, rfl⟩
  · have e1 : (l.head? == some 45) = false := by rw [beq_eq_false_iff_ne]; exact h1
    rw [e1] at c1
    have C1 := Lib.hid (show ∀ W : World, Calls Tryz.prog 53 #[.string s, .string ⟨#[45]⟩] W fun e w' => e = .returned (.tuple #[.string ⟨l.toArray⟩, .bool false]) ∧ w' = W from c1)
    have hr : (sgnL l).1 = false ∧ (sgnL l).2 = Lib.trimPrefix l [43] := by
      unfold Lib.trimPrefix
      rw [pre_one]
      unfold sgnL
      split
      · exact absurd rfl h1
      · exact ⟨rfl, rfl⟩
      · rename_i h2 h3
        refine ⟨rfl, ?_⟩
        rw [if_neg]
        intro h
        cases l with
        | nil => cases h
        | cons x t =>
          have : x = 43 := Option.some.inj (eq_of_beq h)
          subst this
          exact h3 t rfl
    have HR := Lib.hid hr
    obtain ⟨r, hre⟩ : ∃ r, Lib.trimPrefix l [43] = r := ⟨_, rfl⟩
    rw [hre] at c2 HR
    have C2 := Lib.hid c2
    clear c1 c2 h1 e1 hr hre
    go_enter Tryz.func48, Tryz.ntmps48
    go_wp2_with fail
    refine (C1.out _).mono ?_
    rintro e w' ⟨rfl, rfl⟩
    go_wp2_with fail
    refine (C2.out _).mono ?_
    rintro e w' ⟨rfl, rfl⟩
    go_wp2_with fail
    go_ret2
    exact ⟨by rw [HR.out.1, HR.out.2]; rfl, rfl⟩
/-- What a digit of base sixteen counts; 16: it is none. -/
def hexV (c : Nat) : Nat := if 48 ≤ c ∧ c ≤ 57 then c - 48 else if 97 ≤ c ∧ c ≤ 102 then c - 87 else if 65 ≤ c ∧ c ≤ 70 then c - 55 else 16
def hexR (c : Nat) : Nat := if hexV c = 16 then 0 else hexV c
def hexB (c : Nat) : Bool := hexV c != 16
set_option maxRecDepth 100000 in
set_option maxHeartbeats 1000000 in
theorem hexDigit_any (c : Nat) (w : World) (hc : c < 256) : Calls Tryz.prog 51 #[.int .u8 (c : Int)] w fun e w' => e = .returned (.tuple #[.int .u64 (hexR c : Nat), .bool (hexB c)]) ∧ w = w' := by
  rcases (by omega : (48 ≤ c ∧ c ≤ 57) ∨ (97 ≤ c ∧ c ≤ 102) ∨ (65 ≤ c ∧ c ≤ 70) ∨ c < 48 ∨ (57 < c ∧ c < 65) ∨ (70 < c ∧ c < 97) ∨ 102 < c) with h | h | h | h | h | h | h
  · have hv : hexV c = c - 48 := by unfold hexV; rw [if_pos h]
    have HV := Lib.hid (show ((hexR c : Nat) : Int) = (c : Int) - 48 ∧ hexB c = true by unfold hexR hexB; rw [hv, if_neg (by omega)]; exact ⟨by omega, by rw [bne_iff_ne]; omega⟩)
    have h1 := h.1
    have h2 := h.2
    clear hv h
    go_enter Tryz.func51, Tryz.ntmps51
    go_wp2
    go_ret2
    exact ⟨by rw [HV.out.1, HV.out.2]; rfl, rfl⟩
  · have hv : hexV c = c - 87 := by unfold hexV; rw [if_neg (by omega), if_pos h]
    have HV := Lib.hid (show ((hexR c : Nat) : Int) = (c : Int) - 97 + 10 ∧ hexB c = true by unfold hexR hexB; rw [hv, if_neg (by omega)]; exact ⟨by omega, by rw [bne_iff_ne]; omega⟩)
    have h1 : ¬ c ≤ 57 := by omega
    have h2 : 97 ≤ c := h.1
    have h3 : c ≤ 102 := h.2
    clear hv h
    go_enter Tryz.func51, Tryz.ntmps51
    go_wp2
    go_ret2
    exact ⟨by rw [HV.out.1, HV.out.2]; rfl, rfl⟩
  · have hv : hexV c = c - 55 := by unfold hexV; rw [if_neg (by omega), if_neg (by omega), if_pos h]
    have HV := Lib.hid (show ((hexR c : Nat) : Int) = (c : Int) - 65 + 10 ∧ hexB c = true by unfold hexR hexB; rw [hv, if_neg (by omega)]; exact ⟨by omega, by rw [bne_iff_ne]; omega⟩)
    have h1 : ¬ c ≤ 57 := by omega
    have h2 : ¬ 97 ≤ c := by omega
    have h3 : 65 ≤ c := h.1
    have h4 : c ≤ 70 := h.2
    clear hv h
    go_enter Tryz.func51, Tryz.ntmps51
    go_wp2
    go_ret2
    exact ⟨by rw [HV.out.1, HV.out.2]; rfl, rfl⟩
  all_goals
    have hv : hexV c = 16 := by unfold hexV; rw [if_neg (by omega), if_neg (by omega), if_neg (by omega)]
    have hr : hexR c = 0 := by unfold hexR; rw [hv]; rfl
    have hb : hexB c = false := by unfold hexB; rw [hv]; rfl
    rw [hr, hb]
    clear hv hr hb
  · go_enter Tryz.func51, Tryz.ntmps51
    have h1 : ¬ 48 ≤ c := by omega
    have h2 : ¬ 97 ≤ c := by omega
    have h3 : ¬ 65 ≤ c := by omega
    go_wp2
    go_ret2
    exact ⟨rfl, rfl⟩
  · obtain ⟨ha, hc2⟩ := h
    have h1 : ¬ c ≤ 57 := by omega
    have h2 : ¬ 97 ≤ c := by omega
    have h3 : ¬ 65 ≤ c := by omega
    go_enter Tryz.func51, Tryz.ntmps51
    go_wp2
    go_ret2
    exact ⟨rfl, rfl⟩
  · obtain ⟨ha, hc2⟩ := h
    have h1 : ¬ c ≤ 57 := by omega
    have h2 : ¬ 97 ≤ c := by omega
    have h3 : ¬ c ≤ 70 := by omega
    go_enter Tryz.func51, Tryz.ntmps51
    go_wp2
    go_ret2
    exact ⟨rfl, rfl⟩
  · have h1 : ¬ c ≤ 57 := by omega
    have h2 : ¬ c ≤ 102 := by omega
    have h3 : ¬ c ≤ 70 := by omega
    go_enter Tryz.func51, Tryz.ntmps51
    go_wp2
    go_ret2
    exact ⟨rfl, rfl⟩
end Go.Proofs.YtlpobomlnlakcaaGreatDoor

namespace Go.Proofs.YtlpobomlnlakcaaGreatDoor
open Go.RowKit Go.Lib

/-- The sign's bit. -/
def sgn (b : Nat) : Nat := b / 9223372036854775808 % 2 * 9223372036854775808
theorem sgn_mag (b : Nat) (hb : b < 18446744073709551616) : sgn b + mag b = b := by unfold sgn mag; omega
theorem word_sign (s : Bool) (r : Nat) : Ieee.double.word s r = (if s = true then 9223372036854775808 else 0) + r := by
  cases s
  · exact (word_pos r).trans (by simp)
  · show Ieee.double.signWeight + r = _
    rw [dbl_sign]
    rfl
theorem nearest_sign (s : Bool) (m : Nat) (p : Int) : Ieee.double.nearest s m p = (if s = true then 9223372036854775808 else 0) + Ieee.double.nearest false m p := by
  unfold Ieee.Format.nearest
  split
  · rw [word_sign, word_sign]; simp
  · simp only [word_sign]
    cases s
    · simp only [Bool.false_eq_true, if_false, Nat.zero_add]
    · simp only [Bool.false_eq_true, if_false, if_true, Nat.zero_add]
      rfl
/-- Without what stands behind the point. -/
def truncR (r : Nat) : Nat := if 0 ≤ expF r then r else fw (manF r / 2 ^ (-expF r).toNat)
theorem cut_zero (s : Bool) (n j : Nat) : Ieee.Toward.zero.cut s n j = n / 2 ^ j := by
  unfold Ieee.Toward.cut
  simp only [Nat.one_shiftLeft, Bool.toNat_false, Nat.add_zero]
  rcases Nat.le_total j (n.log2 + 2) with h | h
  · rw [Nat.min_eq_left h]
  · rw [Nat.min_eq_right h]
    have h1 : n < 2 ^ (n.log2 + 2) := by
      rcases Nat.eq_zero_or_pos n with h0 | h0
      · subst h0; exact Nat.pow_pos (by omega)
      · have := (log2_bd h0).2
        have h2 : 2 ^ (n.log2 + 1) ≤ 2 ^ (n.log2 + 2) := Nat.pow_le_pow_right (by omega) (by omega)
        omega
    have h2 : 2 ^ (n.log2 + 2) ≤ 2 ^ j := Nat.pow_le_pow_right (by omega) h
    rw [Nat.div_eq_of_lt h1, Nat.div_eq_of_lt (by omega)]
theorem trunc_val {b : Nat} (_hb : b < 18446744073709551616) (h : mag b < 9218868437227405312) : FloatKind.f64.encode ((FloatKind.f64.decode b).integral .zero) = sgn b + truncR (mag b) := by
  have hs : (if (b / 9223372036854775808 % 2 == 1) = true then 9223372036854775808 else 0) = sgn b := by
    unfold sgn
    rcases (by omega : b / 9223372036854775808 % 2 = 0 ∨ b / 9223372036854775808 % 2 = 1) with e | e
    · rw [e]; decide
    · rw [e]; decide
  show Ieee.double.write ((Ieee.double.read b).integral .zero) = _
  rw [read_fin h]
  show Ieee.double.nearest (b / 9223372036854775808 % 2 == 1) (Ieee.Toward.zero.cut (b / 9223372036854775808 % 2 == 1) (manF (mag b) <<< (expF (mag b)).toNat) (-expF (mag b)).toNat) 0 = _
  rw [nearest_sign, hs, cut_zero, Nat.shiftLeft_eq]
  have hml := manF_lt (r := mag b)
  unfold truncR
  by_cases he : 0 ≤ expF (mag b)
  · rw [if_pos he, show (-expF (mag b)).toNat = 0 by omega, Nat.pow_zero, Nat.div_one]
    obtain ⟨e, hee⟩ : ∃ e : Nat, expF (mag b) = (e : Int) := ⟨(expF (mag b)).toNat, by omega⟩
    have hr : 4503599627370496 ≤ mag b := by
      rcases Nat.lt_or_ge (mag b) 4503599627370496 with h1 | h1
      · rw [expF, if_pos h1] at he; omega
      · exact h1
    have hm : manF (mag b) = 4503599627370496 + mag b % 4503599627370496 := by rw [manF, if_neg (by omega)]
    have hx : expF (mag b) = -1074 + ((mag b / 4503599627370496 - 1 : Nat) : Int) := by rw [expF, if_neg (by omega)]
    have hn := nearest_exact (m := manF (mag b)) (j := e) (e := e + 1074) (place := 0) (by omega) hml (by omega) (Or.inr (by omega))
    rw [hee, Int.toNat_natCast, hn]
    congr 1
    rw [Nat.min_eq_left (by omega)]
    omega
  · rw [if_neg he, show (expF (mag b)).toNat = 0 by omega, Nat.pow_zero, Nat.mul_one]
    have hq : manF (mag b) / 2 ^ (-expF (mag b)).toNat < 9007199254740992 := Nat.lt_of_le_of_lt (Nat.div_le_self _ _) hml
    congr 1
    rcases Nat.eq_zero_or_pos (manF (mag b) / 2 ^ (-expF (mag b)).toNat) with h0 | h0
    · rw [h0]; decide
    · exact nearest_up h0 hq
attribute [local irreducible] FloatKind.decode in
theorem trunc_step (x : Nat) (s : Bool) (m : Nat) (p : Int) (hd : FloatKind.f64.decode x = .number s m p) : Extern.MathFloor.toIntegral "math.archTrunc" .zero #[.float .f64 x] = pure (.float .f64 (FloatKind.f64.encode ((FloatKind.f64.decode x).integral .zero))) := by
  conv => lhs; whnf
  rw [hd]
attribute [local irreducible] FloatKind.decode in
theorem trunc_step_inf (x : Nat) (s : Bool) (hd : FloatKind.f64.decode x = .infinity s) : Extern.MathFloor.toIntegral "math.archTrunc" .zero #[.float .f64 x] = pure (.float .f64 (FloatKind.f64.encode ((FloatKind.f64.decode x).integral .zero))) := by
  conv => lhs; whnf
  rw [hd]
theorem run_trunc (b : Nat) (W : World) (hb : b < 18446744073709551616) (h : mag b < 9218868437227405312) : (callFunc 61 #[.float .f64 b]).run Tryz.prog W = .ok (.value (.float .f64 (sgn b + truncR (mag b)))) W := by
  rw [run_callFunc_extern Tryz.func61 (by kernel_rfl) (by kernel_rfl) (by kernel_rfl) (e := Extern.MathFloor.toIntegral "math.archTrunc" .zero) (by kernel_rfl)]
  have hd : FloatKind.f64.decode b = .number (b / 9223372036854775808 % 2 == 1) (manF (mag b)) (expF (mag b)) := read_fin h
  rw [trunc_step b _ _ _ hd, trunc_val hb h]
  rfl
theorem trunc_any (b : Nat) (w : World) (hb : b < 18446744073709551616) (h : mag b < 9218868437227405312) : Calls Tryz.prog 40 #[.float .f64 b] w fun e w' => e = .returned (.float .f64 (sgn b + truncR (mag b))) ∧ w = w' := by
  have h1 := fun W => run_trunc b W hb h
  go_enter Tryz.func40, Tryz.ntmps40
  go_wp2
  go_ret
  exact ⟨rfl, rfl⟩
theorem numTrunc_fin (b : Nat) (w : World) (hb : b < 18446744073709551616) (h : mag b < 9218868437227405312) : Calls Tryz.prog 22 #[.float .f64 b] w fun e w' => e = .returned (.float .f64 (sgn b + truncR (mag b))) ∧ w = w' := by
  have C := Lib.hid (trunc_any b w hb h)
  go_enter Tryz.func22, Tryz.ntmps22
  go_wp2_with fail
  refine C.out.mono ?_
  rintro e w' ⟨rfl, rfl⟩
  go_wp2
  go_ret
  exact ⟨rfl, rfl⟩
end Go.Proofs.YtlpobomlnlakcaaGreatDoor

namespace Go.Proofs.YtlpobomlnlakcaaGreatDoor

/-- The place of the first digit of a float, counted in the least one. -/
def Lg (r : Nat) : Nat := if r < 4503599627370496 then r.log2 else r / 4503599627370496 + 51
/-- Its 53 digits. -/
def Mt (r : Nat) : Nat := if r < 4503599627370496 then r * 2 ^ (52 - r.log2) else 4503599627370496 + r % 4503599627370496
theorem Mt_bd {r : Nat} (h : 0 < r) : 4503599627370496 ≤ Mt r ∧ Mt r < 9007199254740992 := by
  unfold Mt
  split
  · exact full_bd h (by omega)
  · omega
theorem two52 : (4503599627370496 : Nat) = 2 ^ 52 := by decide
theorem V_Mt {r : Nat} (h : 0 < r) : V r * 4503599627370496 = Mt r * 2 ^ Lg r := by
  unfold V Mt Lg
  by_cases h1 : r < 4503599627370496
  · have hb := log2_le52 h (by omega)
    rw [if_pos h1, if_pos h1, if_pos h1, Nat.mul_assoc, ← Nat.pow_add, show 52 - r.log2 + r.log2 = 52 by omega]
  · rw [if_neg h1, if_neg h1, if_neg h1, show r / 4503599627370496 + 51 = r / 4503599627370496 - 1 + 52 by omega, Nat.pow_add, Nat.mul_assoc]
theorem nearest_fit {D : Nat} {p : Int} (hD : 0 < D) (hD2 : D < 9007199254740992) (hp : -1074 ≤ p) (hp2 : p ≤ 971) :
    ∃ t, Ieee.double.nearest false D p = t ∧ t < 9218868437227405312 ∧ V t = D * 2 ^ (p + 1074).toNat := by
  have hb := log2_le52 hD hD2
  obtain ⟨f1, f2⟩ := full_bd hD hD2
  obtain ⟨s, hs1, hs2, hs3⟩ : ∃ s : Nat, max (p + (D.log2 : Int) - ((52 : Nat) : Int)) (-1074) = p - (s : Int) ∧ s ≤ 52 - D.log2 ∧ (p - (s : Int) = -1074 ∨ s = 52 - D.log2) :=
    ⟨(p - max (p + (D.log2 : Int) - 52) (-1074)).toNat, by omega, by omega, by omega⟩
  obtain ⟨e, he⟩ : ∃ e : Nat, p - (s : Int) + 1074 = (e : Int) := ⟨(p - (s : Int) + 1074).toNat, by omega⟩
  have hm1 : 0 < D * 2 ^ s := Nat.mul_pos hD (Nat.pow_pos (by omega))
  have hm2 : D * 2 ^ s < 9007199254740992 := Nat.lt_of_le_of_lt (Nat.mul_le_mul_left _ (Nat.pow_le_pow_right (by omega) hs2)) f2
  have hm3 : e = 0 ∨ 4503599627370496 ≤ D * 2 ^ s := by
    rcases hs3 with h | h
    · left; omega
    · right; rw [h]; exact f1
  have hcut := cut_exact (D * 2 ^ s) 0 hm1
  rw [Nat.pow_zero, Nat.mul_one] at hcut
  refine ⟨e * 4503599627370496 + D * 2 ^ s, ?_, by omega, ?_⟩
  · unfold Ieee.Format.nearest
    rw [if_neg (by omega)]
    simp only [dbl_frac, dbl_least, dbl_binade, dbl_inf, hs1]
    rw [show (p - (p - (s : Int))).toNat = s by omega, show (p - (s : Int) - p).toNat = 0 by omega, Nat.shiftLeft_eq, hcut, show (p - (s : Int) - -1074).toNat = e by omega, word_pos, Nat.min_eq_left (by omega)]
  · rw [V_at _ _ (Nat.le_of_lt hm2) hm3, Nat.mul_assoc, ← Nat.pow_add]
    congr 2
    omega
theorem expF_mono {z r : Nat} (h : z ≤ r) : expF z ≤ expF r := by unfold expF; split <;> split <;> omega
theorem V_man {r : Nat} : V r = manF r * 2 ^ (expF r + 1074).toNat := by
  rw [← val_V, Nat.shiftLeft_eq]
  rfl
theorem sign_no {r : Nat} (h : r < 9218868437227405312) : (r / 9223372036854775808 % 2 == 1) = false := by rw [beq_eq_false_iff_ne]; omega
theorem mag_no {r : Nat} (h : r < 9218868437227405312) : mag r = r := Nat.mod_eq_of_lt (by omega)
/-- The difference of two floats of which the greater is at most twice the other one is exact. -/
theorem sub_exact {r z : Nat} (hr : r < 9218868437227405312) (_hz : 0 < z) (h1 : z ≤ r) (h2 : V r ≤ 2 * V z) :
    ∃ t, floatBits .sub .f64 r z = some t ∧ t < 9218868437227405312 ∧ V t = V r - V z := by
  have hz2 : z < 9218868437227405312 := by omega
  have hE := expF_mono h1
  have hEz := expF_bd hz2
  obtain ⟨k, hk⟩ : ∃ k : Nat, expF r - expF z = (k : Int) := ⟨(expF r - expF z).toNat, by omega⟩
  have hVz := V_man (r := z)
  have hVr := V_man (r := r)
  rw [show (expF r + 1074).toNat = k + (expF z + 1074).toNat by omega, Nat.pow_add, ← Nat.mul_assoc] at hVr
  have hc : 0 < 2 ^ (expF z + 1074).toNat := Nat.pow_pos (by omega)
  have hle := V_le h1
  rw [hVz, hVr] at hle h2
  rw [← Nat.mul_assoc] at h2
  have g1 := Nat.le_of_mul_le_mul_right hle hc
  have g2 := Nat.le_of_mul_le_mul_right h2 hc
  obtain ⟨D, hD⟩ : ∃ D, manF r * 2 ^ k - manF z = D := ⟨_, rfl⟩
  have hn := manF_lt (r := z)
  have hVD : V r - V z = D * 2 ^ (expF z + 1074).toNat := by rw [hVr, hVz, ← Nat.sub_mul, hD]
  rw [hVD]
  show ∃ t, (((Ieee.double.read r).sum (Ieee.double.read z).opposite).map Ieee.double.write) = some t ∧ _
  rw [read_fin (by rw [mag_no hr]; exact hr), read_fin (by rw [mag_no hz2]; exact hz2), mag_no hr, mag_no hz2, sign_no hr, sign_no hz2]
  have htot : Ieee.signed false (manF r) (expF r - min (expF r) (expF z)).toNat + Ieee.signed true (manF z) (expF z - min (expF r) (expF z)).toNat = (D : Int) := by
    rw [show min (expF r) (expF z) = expF z by omega, show (expF z - expF z).toNat = 0 by omega, show (expF r - expF z).toNat = k by omega]
    show ((manF r <<< k : Nat) : Int) + -((manF z <<< 0 : Nat) : Int) = _
    rw [Nat.shiftLeft_eq, Nat.shiftLeft_zero]
    omega
  show ∃ t, some (Ieee.double.write (.number (if Ieee.signed false (manF r) (expF r - min (expF r) (expF z)).toNat + Ieee.signed true (manF z) (expF z - min (expF r) (expF z)).toNat = 0 then false && true else decide (Ieee.signed false (manF r) (expF r - min (expF r) (expF z)).toNat + Ieee.signed true (manF z) (expF z - min (expF r) (expF z)).toNat < 0)) (Ieee.signed false (manF r) (expF r - min (expF r) (expF z)).toNat + Ieee.signed true (manF z) (expF z - min (expF r) (expF z)).toNat).natAbs (min (expF r) (expF z)))) = some t ∧ _
  rw [htot, Int.natAbs_natCast, show min (expF r) (expF z) = expF z by omega]
  rcases Nat.eq_zero_or_pos D with h0 | h0
  · refine ⟨0, ?_, by omega, ?_⟩
    · rw [h0]
      rfl
    · rw [h0, Nat.zero_mul]
      decide
  · rw [if_neg (by omega), decide_eq_false (by omega)]
    obtain ⟨t, h3, h4, h5⟩ := nearest_fit (D := D) (p := expF z) h0 (by omega) hEz.1 hEz.2
    exact ⟨t, congrArg some h3, h4, h5⟩
/-- A float times a power of two. -/
def ldR (y k : Nat) : Nat := if 52 ≤ Lg y + k then (Lg y + k - 51) * 4503599627370496 + (Mt y - 4503599627370496) else y * 2 ^ k
theorem low_fit {y k : Nat} (h : 0 < y) (h2 : Lg y + k < 52) : y < 4503599627370496 ∧ y * 2 ^ k < 4503599627370496 ∧ Lg y = y.log2 := by
  have hy : y < 4503599627370496 := by
    rcases Nat.lt_or_ge y 4503599627370496 with h1 | h1
    · exact h1
    · rw [Lg, if_neg (by omega)] at h2; omega
  have hl : Lg y = y.log2 := by rw [Lg, if_pos hy]
  refine ⟨hy, ?_, hl⟩
  have hb := (log2_bd h).2
  rw [hl] at h2
  have h3 : y * 2 ^ k < 2 ^ (y.log2 + 1) * 2 ^ k := Nat.mul_lt_mul_of_pos_right hb (Nat.pow_pos (by omega))
  rw [← Nat.pow_add] at h3
  refine Nat.lt_of_lt_of_le h3 ?_
  rw [two52]
  exact Nat.pow_le_pow_right (by omega) (by omega)
theorem shift_one {j m : Nat} (h : 4503599627370496 ≤ m) : (j + 1) * 4503599627370496 + (m - 4503599627370496) = j * 4503599627370496 + m := by omega
theorem pow_52 {n : Nat} (h : 52 ≤ n) : 2 ^ (n - 52) * 4503599627370496 = 2 ^ n := by
  have e : 2 ^ n = 2 ^ (n - 52) * 2 ^ 52 := by rw [← Nat.pow_add]; congr 1; omega
  rw [e, ← two52]
theorem V_ldR {y k : Nat} (h : 0 < y) : V (ldR y k) = V y * 2 ^ k := by
  unfold ldR
  by_cases hk : 52 ≤ Lg y + k
  · rw [if_pos hk]
    obtain ⟨b1, b2⟩ := Mt_bd h
    have e : (Lg y + k - 51) * 4503599627370496 + (Mt y - 4503599627370496) = (Lg y + k - 52) * 4503599627370496 + Mt y := by
      clear h
      obtain ⟨j, hj⟩ : ∃ j, Lg y + k - 52 = j := ⟨_, rfl⟩
      rw [hj, show Lg y + k - 51 = j + 1 by omega]
      exact shift_one b1
    rw [e, V_at _ _ (Nat.le_of_lt b2) (Or.inr b1)]
    have hm := V_Mt h
    refine Nat.eq_of_mul_eq_mul_right (show 0 < 4503599627370496 by omega) ?_
    rw [Nat.mul_right_comm (V y), hm, Nat.mul_assoc (Mt y) _ (2 ^ k), ← Nat.pow_add, Nat.mul_assoc]
    exact congrArg (Mt y * ·) (pow_52 hk)
  · rw [if_neg hk]
    obtain ⟨h1, h2, -⟩ := low_fit (k := k) h (by omega)
    rw [V, if_pos h2, V, if_pos h1]
/-- How often a float is doubled till it is next below another one. -/
def modK (r y : Nat) : Nat := Lg r - (Lg y + if Mt r < Mt y then 1 else 0)
theorem mod_step {r y : Nat} (hy : 0 < y) (h : y ≤ r) : Lg y + (if Mt r < Mt y then 1 else 0) ≤ Lg r ∧ 0 < ldR y (modK r y) ∧ ldR y (modK r y) ≤ r ∧ V r ≤ 2 * V (ldR y (modK r y)) := by
  have hr : 0 < r := by omega
  obtain ⟨a1, a2⟩ := Mt_bd hy
  obtain ⟨b1, b2⟩ := Mt_bd hr
  have e1 := V_Mt hy
  have e2 := V_Mt hr
  have hV := V_le h
  have hle : Lg y + (if Mt r < Mt y then 1 else 0) ≤ Lg r := by
    rcases Nat.lt_or_ge (Lg r) (Lg y + (if Mt r < Mt y then 1 else 0)) with hc | hc
    · exfalso
      have h3 : Mt r * 2 ^ Lg r < Mt y * 2 ^ Lg y := by
        split at hc
        · refine Nat.lt_of_lt_of_le (Nat.mul_lt_mul_of_pos_right ‹_› (Nat.pow_pos (by omega))) ?_
          exact Nat.mul_le_mul_left _ (Nat.pow_le_pow_right (by omega) (by omega))
        · have h4 : 2 ^ (Lg r + 1) ≤ 2 ^ Lg y := Nat.pow_le_pow_right (by omega) (by omega)
          rw [Nat.pow_succ] at h4
          have h5 : Mt y * (2 ^ Lg r * 2) ≤ Mt y * 2 ^ Lg y := Nat.mul_le_mul_left _ h4
          have h6 : Mt r * 2 ^ Lg r < Mt y * 2 * 2 ^ Lg r := Nat.mul_lt_mul_of_pos_right (by omega) (Nat.pow_pos (by omega))
          rw [Nat.mul_assoc, Nat.mul_comm 2] at h6
          exact Nat.lt_of_lt_of_le h6 h5
      rw [← e1, ← e2] at h3
      have := Nat.lt_of_mul_lt_mul_right h3
      omega
    · exact hc
  have hVk := V_ldR (y := y) (k := modK r y) hy
  have hsum : Mt y * 2 ^ Lg y * 2 ^ modK r y = Mt y * 2 ^ (Lg r - (if Mt r < Mt y then 1 else 0)) := by
    rw [Nat.mul_assoc, ← Nat.pow_add]
    congr 2
    unfold modK
    omega
  have hV2 : V (ldR y (modK r y)) * 4503599627370496 = Mt y * 2 ^ (Lg r - (if Mt r < Mt y then 1 else 0)) := by
    rw [hVk, Nat.mul_right_comm, e1, hsum]
  have hboth : V (ldR y (modK r y)) ≤ V r ∧ V r ≤ 2 * V (ldR y (modK r y)) := by
    constructor
    · refine Nat.le_of_mul_le_mul_right (c := 4503599627370496) ?_ (by omega)
      rw [hV2, e2]
      split
      · rename_i hlt
        rw [if_pos hlt] at hle
        have e3 : 2 ^ Lg r = 2 ^ (Lg r - 1) * 2 := by rw [← Nat.pow_succ]; congr 1; omega
        rw [e3, Nat.mul_comm (2 ^ (Lg r - 1)), ← Nat.mul_assoc]
        exact Nat.mul_le_mul_right _ (by omega)
      · exact Nat.mul_le_mul_right _ (by omega)
    · refine Nat.le_of_mul_le_mul_right (c := 4503599627370496) ?_ (by omega)
      rw [Nat.mul_assoc, hV2, e2]
      split
      · rename_i hlt
        rw [if_pos hlt] at hle
        have e3 : 2 ^ Lg r = 2 ^ (Lg r - 1) * 2 := by rw [← Nat.pow_succ]; congr 1; omega
        have g : Mt r * 2 ^ (Lg r - 1) ≤ Mt y * 2 ^ (Lg r - 1) := Nat.mul_le_mul_right _ (by omega)
        rw [e3, ← Nat.mul_assoc, Nat.mul_comm 2]
        exact Nat.mul_le_mul_right _ g
      · rw [Nat.sub_zero, ← Nat.mul_assoc]
        exact Nat.mul_le_mul_right _ (by omega)
  refine ⟨hle, ?_, ?_, hboth.2⟩
  · rcases Nat.eq_zero_or_pos (ldR y (modK r y)) with h0 | h0
    · exfalso
      have h1 := hboth.2
      rw [h0] at h1
      have h2 : V 0 = 0 := by decide
      have h3 := V_lt hr
      omega
    · exact h0
  · rcases Nat.lt_or_ge r (ldR y (modK r y)) with h1 | h1
    · have := V_lt h1; omega
    · exact h1
/-- One step takes the float times a power of two away: what is left of the division stays. -/
theorem mod_keep {r y t : Nat} (hy : 0 < y) (h : y ≤ r) (ht : V t = V r - V (ldR y (modK r y))) : t < r ∧ V t % V y = V r % V y := by
  obtain ⟨h1, h2, h3, h4⟩ := mod_step hy h
  have hV := V_le h3
  have hk := V_ldR (y := y) (k := modK r y) hy
  have h0 := V_lt h2
  constructor
  · rcases Nat.lt_or_ge t r with h5 | h5
    · exact h5
    · have := V_le h5
      omega
  · have e : V r = V t + V y * 2 ^ modK r y := by omega
    rw [e, Nat.add_mul_mod_self_left]
/-- Its fraction's bits. -/
def frB (r : Nat) : Nat := 1022 * 4503599627370496 + (Mt r - 4503599627370496)
theorem frB_bd {r : Nat} (h : 0 < r) : frB r < 9218868437227405312 := by
  have := Mt_bd h
  unfold frB
  omega
/-- A normal float: of a lesser one the one 2 to the 52 times as great. -/
def nrm (r : Nat) : Nat := if r < 4503599627370496 then (r.log2 + 1) * 4503599627370496 + (Mt r - 4503599627370496) else r
theorem nrm_split {r : Nat} (h : 0 < r) (h2 : r < 9218868437227405312) : ∃ e : Nat, nrm r = e * 4503599627370496 + (Mt r - 4503599627370496) ∧ 1 ≤ e ∧ e ≤ 2046 ∧ (r < 4503599627370496 → e = Lg r + 1 ∧ Lg r ≤ 51) ∧ (4503599627370496 ≤ r → e + 51 = Lg r) := by
  obtain ⟨b1, b2⟩ := Mt_bd h
  by_cases h1 : r < 4503599627370496
  · have hl := log2_le52 h (by omega)
    have hl2 : r.log2 ≤ 51 := by
      have h3 : 2 ^ r.log2 < 2 ^ 52 := Nat.lt_of_le_of_lt (log2_bd h).1 (by rw [← two52]; exact h1)
      have := (Nat.pow_lt_pow_iff_right (show 1 < 2 by omega)).1 h3
      omega
    refine ⟨r.log2 + 1, by rw [nrm, if_pos h1], by omega, by omega, fun _ => ?_, fun h => by omega⟩
    rw [Lg, if_pos h1]
    omega
  · refine ⟨r / 4503599627370496, ?_, by omega, by omega, fun h => by omega, fun _ => ?_⟩
    · rw [nrm, if_neg h1, Mt, if_neg h1]
      omega
    · rw [Lg, if_neg h1]
theorem mul_52 {r : Nat} (h : 0 < r) (h2 : r < 4503599627370496) : floatBits .mul .f64 r 4841369599423283200 = some (nrm r) := by
  obtain ⟨f1, f2⟩ := full_bd h (by omega)
  have hl := log2_le52 h (by omega)
  show (((Ieee.double.read r).product (Ieee.double.read 4841369599423283200)).map Ieee.double.write) = _
  have hr : r < 9218868437227405312 := by omega
  rw [read_fin (by rw [mag_no hr]; exact hr), mag_no hr, sign_no hr, show Ieee.double.read 4841369599423283200 = .number false 4503599627370496 0 by decide]
  show some (Ieee.double.nearest false (manF r * 4503599627370496) (expF r + 0)) = _
  have hman : manF r = r := by rw [manF, if_pos h2]
  have hexp : expF r = -1074 := by rw [expF, if_pos h2]
  have hx := nearest_exact (m := r * 2 ^ (52 - r.log2)) (j := r.log2) (e := r.log2) (place := -1074 + 0) (by omega) f2 (by omega) (Or.inr f1)
  have hp : r * 4503599627370496 = r * 2 ^ (52 - r.log2) * 2 ^ r.log2 := by
    rw [Nat.mul_assoc, ← Nat.pow_add, show 52 - r.log2 + r.log2 = 52 by omega]
  rw [hman, hexp, hp, hx, nrm, if_pos h2, Mt, if_pos h2, Nat.min_eq_left (by omega), shift_one f1]
end Go.Proofs.YtlpobomlnlakcaaGreatDoor

namespace Go.Proofs.YtlpobomlnlakcaaGreatDoor
open Go.RowKit Go.Lib

def isH (c : UInt8) : Bool := hexB c.toNat
theorem hexV_lt (c : Nat) : hexB c = true → hexV c < 16 := by
  unfold hexB hexV
  intro h
  rw [bne_iff_ne] at h
  split at h <;> rename_i h1
  · rw [if_pos h1]; omega
  · rw [if_neg h1]
    split at h <;> rename_i h2
    · rw [if_pos h2]; omega
    · rw [if_neg h2]
      split at h <;> rename_i h3
      · rw [if_pos h3]; omega
      · exact absurd rfl h
theorem hexR_lt (c : Nat) : hexR c < 16 := by
  unfold hexR
  split
  · omega
  · rename_i h
    exact hexV_lt c (by unfold hexB; rw [bne_iff_ne]; exact h)
def hvl (l : List UInt8) : Nat := l.foldl (fun a c => a * 16 + hexR c.toNat) 0
theorem hvl_snoc (l : List UInt8) (c : UInt8) : hvl (l ++ [c]) = hvl l * 16 + hexR c.toNat := by unfold hvl; rw [List.foldl_append]; rfl
theorem hvl_lt : ∀ (k : Nat) (l : List UInt8), l.length = k → hvl l < 16 ^ k
  | 0, l, h => by rw [List.length_eq_zero_iff.1 h]; exact Nat.one_pos
  | k + 1, l, h => by
    obtain ⟨m, c, rfl⟩ : ∃ m c, l = m ++ [c] := ⟨l.dropLast, l.getLast (by intro e; rw [e] at h; cases h), (List.dropLast_concat_getLast _).symm⟩
    rw [List.length_append] at h
    have := hvl_lt k m (by simpa using h)
    have := hexR_lt c.toNat
    rw [hvl_snoc, Nat.pow_succ]
    omega
theorem takeWhile_at {α : Type} {p : α → Bool} {l : List α} {k : Nat} (hk : k ≤ l.length) (h : ∀ j (hj : j < l.length), j < k → p l[j] = true) (hs : ∀ hj : k < l.length, p l[k] = false) : l.takeWhile p = l.take k := by
  induction l generalizing k with
  | nil => simp
  | cons c l ih =>
    rcases Nat.eq_zero_or_pos k with rfl | hk0
    · have := hs (by simp)
      simp only [List.getElem_cons_zero] at this
      rw [List.takeWhile_cons, this]
      rfl
    · obtain ⟨k, rfl⟩ : ∃ m, k = m + 1 := ⟨k - 1, by omega⟩
      have hc := h 0 (by simp) (by omega)
      simp only [List.getElem_cons_zero] at hc
      have := ih (k := k) (by simpa using hk) (fun j hj hjk => by have := h (j + 1) (by simpa using hj) (by omega); simpa using this) (fun hj => by have := hs (by simpa using hj); simpa using this)
      rw [List.takeWhile_cons, hc, List.take_succ_cons, this]
      rfl
/-- The digits of base sixteen that a text has behind 0x. -/
def hexP (l : List UInt8) : List UInt8 :=
  match l with
  | a :: c :: t => if a = 48 ∧ (c = 120 ∨ c = 88) then (t.take 13).takeWhile isH else []
  | _ => []
theorem hexP_short {l : List UInt8} (h : l.length < 2) : hexP l = [] := by
  unfold hexP
  split
  · simp at h; omega
  · rfl
theorem hexP_len (l : List UInt8) : (hexP l).length ≤ 13 ∧ (hexP l).length + 2 ≤ max l.length 2 := by
  unfold hexP
  split
  · split
    · rename_i a c t h
      have h1 := (List.takeWhile_prefix isH (l := t.take 13)).length_le
      rw [List.length_take] at h1
      simp only [List.length_cons]
      omega
    · exact ⟨by simp, by simp⟩
  · exact ⟨by simp, by simp; omega⟩
/-- The float and the bytes of a number of base sixteen. -/
def hexF (l : List UInt8) : Nat := if hexP l = [] then 0 else fw (hvl (hexP l))
def hexS (l : List UInt8) : Nat := if hexP l = [] then 0 else 2 + (hexP l).length
def HexEnd (w : World) (l : List UInt8) (e : Ending) (w' : World) : Prop := e = .returned (.tuple #[.float .f64 (hexF l), .int .i64 (hexS l : Nat)]) ∧ w = w'
theorem or_hex (n d : Nat) (hn : n < 1152921504606846976) (hd : d < 16) : bits .or .u64 ((n : Int) * 16) (d : Int) = (n : Int) * 16 + (d : Int) := by
  have h := u64_or_nat (n * 16) d (by omega) (by omega)
  rw [show n * 16 ||| d = n * 16 + d from or_low (k := 4) hd] at h
  rw [Int.natCast_mul, Int.natCast_add, Int.natCast_mul] at h
  exact h
theorem hexP_at {t : List UInt8} {a c : UInt8} {k : Nat} (ha : a = 48) (hc : c = 120 ∨ c = 88) (hk : k ≤ t.length) (h13 : k ≤ 13) (h : ∀ j (hj : j < t.length), j < k → isH t[j] = true) (hs : k = 13 ∨ ∀ hj : k < t.length, isH t[k] = false) : hexP (a :: c :: t) = t.take k := by
  show (if a = 48 ∧ (c = 120 ∨ c = 88) then (t.take 13).takeWhile isH else []) = _
  rw [if_pos ⟨ha, hc⟩, takeWhile_at (k := k) (by rw [List.length_take]; omega) (fun j hj hjk => by
    rw [List.getElem_take]
    exact h j (by rw [List.length_take] at hj; omega) hjk) (fun hj => by
    rw [List.getElem_take]
    rw [List.length_take] at hj
    rcases hs with hs | hs
    · omega
    · exact hs (by omega)), List.take_take, Nat.min_eq_left h13]
theorem hex_ends {l d : List UInt8} {k : Nat} (h : hexP l = d) (hd : d.length = k) : hexF l = (if k = 0 then 0 else fw (hvl d)) ∧ hexS l = (if k = 0 then 0 else 2 + k) := by
  unfold hexF hexS
  rw [h]
  by_cases h0 : k = 0
  · rw [if_pos h0, if_pos h0, if_pos (List.length_eq_zero_iff.1 (by omega)), if_pos (List.length_eq_zero_iff.1 (by omega))]
    exact ⟨rfl, rfl⟩
  · have hn : ¬ d = [] := by intro e; rw [e] at hd; exact h0 hd.symm
    rw [if_neg h0, if_neg h0, if_neg hn, if_neg hn, hd]
    exact ⟨rfl, rfl⟩
set_option maxRecDepth 100000 in
set_option maxHeartbeats 1000000 in
theorem cutHex_no (s : ByteArray) (w : World) (hs : s.size ≤ 4611686018427387904) (h : ¬ (2 ≤ s.size ∧ s.data.toList[0]? = some 48 ∧ (s.data.toList[1]? = some 120 ∨ s.data.toList[1]? = some 88))) :
    Calls Tryz.prog 30 #[.string s] w (HexEnd w s.data.toList) := by
  obtain ⟨l, hl⟩ : ∃ l, s.data.toList = l := ⟨_, rfl⟩
  have hlen : l.length = s.size := by rw [← hl, ba_len]
  rw [hl] at h ⊢
  have hP : hexP l = [] := by
    by_cases h2 : l.length < 2
    · exact hexP_short h2
    · match l, h, hlen with
      | a :: c :: t, h, hlen =>
        show (if a = 48 ∧ (c = 120 ∨ c = 88) then _ else _) = _
        rw [if_neg]
        rintro ⟨rfl, hc⟩
        refine h ⟨by omega, rfl, ?_⟩
        rcases hc with rfl | rfl
        · exact Or.inl rfl
        · exact Or.inr rfl
      | [_], _, _ => simp at h2
      | [], _, _ => simp at h2
  have HE := Lib.hid (hex_ends hP rfl)
  by_cases h2 : s.size < 2
  · have h2i : (s.size : Int) < 2 := by omega
    clear h hl hlen hP
    go_enter Tryz.func30, Tryz.ntmps30
    go_wp2_with fail
    go_ret2
    exact ⟨by rw [HE.out.1, HE.out.2]; rfl, rfl⟩
  · have h2i : ¬ (s.size : Int) < 2 := by omega
    have hs0 : 0 < s.size := by omega
    have hs1 : 1 < s.size := by omega
    obtain ⟨z0, hz0⟩ : ∃ z, (s[0]'hs0).toNat = z := ⟨_, rfl⟩
    obtain ⟨z1, hz1⟩ : ∃ z, (s[1]'hs1).toNat = z := ⟨_, rfl⟩
    have hb0 := ba_byte s hl 0 hs0
    have hb1 := ba_byte s hl 1 hs1
    have hzi0 : (((s[0]'hs0).toNat : Nat) : Int) = (z0 : Int) := by omega
    have hzi1 : (((s[1]'hs1).toNat : Nat) : Int) = (z1 : Int) := by omega
    by_cases hc0 : z0 = 48
    · have hn1 : ¬ z1 = 120 ∧ ¬ z1 = 88 := by
        constructor
        · intro e
          refine h ⟨by omega, ?_, Or.inl ?_⟩
          · rw [hb0]; exact congrArg some (UInt8.toNat_inj.1 (by rw [hz0, hc0]; rfl))
          · rw [hb1]; exact congrArg some (UInt8.toNat_inj.1 (by rw [hz1, e]; rfl))
        · intro e
          refine h ⟨by omega, ?_, Or.inr ?_⟩
          · rw [hb0]; exact congrArg some (UInt8.toNat_inj.1 (by rw [hz0, hc0]; rfl))
          · rw [hb1]; exact congrArg some (UInt8.toNat_inj.1 (by rw [hz1, e]; rfl))
      have g0 : ((z0 : Int) != 48) = false := by rw [bne_eq_false_iff_eq]; omega
      have g1 : ((z1 : Int) != 120) = true := by rw [bne_iff_ne]; omega
      have g2 : ((z1 : Int) != 88) = true := by rw [bne_iff_ne]; omega
      clear h hl hlen hP hz0 hz1 hb0 hb1 hc0 hn1
      go_enter Tryz.func30, Tryz.ntmps30
      go_wp2_with fail
      go_ret2
      exact ⟨by rw [HE.out.1, HE.out.2]; rfl, rfl⟩
    · have g0 : ((z0 : Int) != 48) = true := by rw [bne_iff_ne]; omega
      clear h hl hlen hP hz0 hz1 hb0 hb1 hc0
      go_enter Tryz.func30, Tryz.ntmps30
      go_wp2_with fail
      go_ret2
      exact ⟨by rw [HE.out.1, HE.out.2]; rfl, rfl⟩
set_option maxRecDepth 100000 in
set_option maxHeartbeats 2000000 in
theorem cutHex_yes (s : ByteArray) (w : World) (hs : s.size ≤ 4611686018427387904) (a c : UInt8) (t : List UInt8) (hl : s.data.toList = a :: c :: t) (ha : a = 48) (hc : c = 120 ∨ c = 88) :
    Calls Tryz.prog 30 #[.string s] w (HexEnd w (a :: c :: t)) := by
  have hlen : t.length + 2 = s.size := by rw [← ba_len, hl]; rfl
  have h2i : ¬ (s.size : Int) < 2 := by omega
  have hs0 : 0 < s.size := by omega
  have hs1 : 1 < s.size := by omega
  have hb0 := Option.some.inj (ba_byte s hl 0 hs0)
  have hb1 := Option.some.inj (ba_byte s hl 1 hs1)
  have hzi0 : (((s[0]'hs0).toNat : Nat) : Int) = 48 := by rw [← hb0]; show ((a.toNat : Nat) : Int) = 48; rw [ha]; rfl
  obtain ⟨z1, hz1⟩ : ∃ z, c.toNat = z := ⟨_, rfl⟩
  have hzi1 : (((s[1]'hs1).toNat : Nat) : Int) = (z1 : Int) := by rw [← hb1]; show ((c.toNat : Nat) : Int) = _; rw [hz1]
  have hZ : ((z1 : Int) != 120) = false ∨ (((z1 : Int) != 120) = true ∧ ((z1 : Int) != 88) = false) := by
    rcases hc with h | h
    · left; rw [bne_eq_false_iff_eq, ← hz1, h]; rfl
    · right; rw [bne_iff_ne, bne_eq_false_iff_eq, ← hz1, h]; decide
  have HBY := Lib.hid (fun j (hj : j < s.size) => ba_byte s hl j hj)
  have HLEN := Lib.hid hlen
  have HP := Lib.hid (fun k hk h13 h hs => hexP_at (t := t) (k := k) ha hc hk h13 h hs)
  clear hl hlen ha hc hb0 hb1 hz1
  rcases hZ with g1 | ⟨g1, g2⟩
  all_goals
    go_enter Tryz.func30, Tryz.ntmps30
    go_wp2_with fail
    go_loop [4, 5] (fun nv iv => ∃ k n : Nat, iv = .int .i64 ((2 + k : Nat) : Int) ∧ nv = .int .u64 (n : Int) ∧ k ≤ 13 ∧ k ≤ t.length ∧ n = hvl (t.take k) ∧ ∀ j (hj : j < t.length), j < k → isH t[j] = true) (fun _ iv => 15 - (RowKit.intOf iv).toNat)
    case atStart => exact ⟨0, 0, rfl, rfl, by omega, by omega, rfl, fun j _ hj => absurd hj (Nat.not_lt_zero j)⟩
    case round =>
      obtain ⟨k, n, rfl, rfl, hk13, hkl, hn, h0⟩ := hrel
      have hn2 : n < 16 ^ k := by rw [hn]; exact hvl_lt k _ (by rw [List.length_take]; omega)
      have hn3 : n < 4503599627370496 := Nat.lt_of_lt_of_le hn2 (Nat.le_trans (Nat.pow_le_pow_right (by omega) hk13) (by decide))
      have H0 := Lib.hid h0
      have HN := Lib.hid hn
      have HFIN := Lib.hid (fun (hstop : k = 13 ∨ ∀ hj : k < t.length, isH t[k] = false) => hex_ends (k := k) (HP.out k hkl hk13 h0 hstop) (by rw [List.length_take]; omega))
      clear h0 hn hn2
      obtain ⟨m, hm⟩ : ∃ m, 2 + k = m := ⟨_, rfl⟩
      have hmi : ((2 + k : Nat) : Int) = (m : Int) := by rw [hm]
      have hls := HLEN.out
      by_cases hgo : k < 13 ∧ k < t.length
      · obtain ⟨hg1, hg2⟩ := hgo
        have hms : m < s.size := by omega
        have hm15 : m < 15 := by omega
        obtain ⟨z, hz⟩ : ∃ z, (s[m]'hms).toNat = z := ⟨_, rfl⟩
        have hzi : (((s[m]'hms).toNat : Nat) : Int) = (z : Int) := by rw [hz]
        have hzb : z < 256 := by rw [← hz]; exact UInt8.toNat_lt _
        have htk : t[k] = s[m]'hms := by
          have h := HBY.out m hms
          have e : (a :: c :: t)[m]? = t[k]? := by
            rw [show m = k + 1 + 1 by omega]
            rfl
          rw [e, List.getElem?_eq_getElem hg2] at h
          exact Option.some.inj h
        have hmin : min (s.size : Int) 15 = 15 ∨ min (s.size : Int) 15 = (s.size : Int) := by omega
        have cH := fun W => hexDigit_any z W hzb
        have hrl := hexR_lt z
        obtain ⟨d, hd⟩ : ∃ d, hexR z = d := ⟨_, rfl⟩
        obtain ⟨b, hbb⟩ : ∃ b, hexB z = b := ⟨_, rfl⟩
        rw [hd, hbb] at cH
        rw [hd] at hrl
        have hor := or_hex n d (by omega) hrl
        have CH := Lib.hid cH
        have hlt : (m : Int) < min (s.size : Int) 15 := by omega
        cases b with
        | true =>
          have HS := Lib.hid (show isH t[k] = true ∧ n * 16 + d = hvl (t.take (k + 1)) by
            refine ⟨?_, ?_⟩
            · unfold isH; rw [htk, hz]; exact hbb
            · have e : t.take (k + 1) = t.take k ++ [t[k]] := List.take_succ_eq_append_getElem hg2
              rw [e, hvl_snoc, htk, hz, hd, ← HN.out])
          have hm' : (m : Int) + 1 = ((2 + (k + 1) : Nat) : Int) := by omega
          have HM' := Lib.hid hm'
          clear hz htk cH hd hbb hmin hm'
          rw [hmi]
          clear hmi hm
          go_wp2_with fail
          refine (CH.out _).mono ?_
          rintro e w' ⟨rfl, rfl⟩
          go_wp2_with fail
          go_round
          case rel => exact ⟨k + 1, n * 16 + d, by rw [HM'.out], by rw [Int.natCast_add, Int.natCast_mul]; rfl, by omega, by omega, HS.out.2, fun j hj hjk => by
            rcases Nat.lt_or_ge j k with h | h
            · exact H0.out j hj h
            · obtain rfl : j = k := by omega
              exact HS.out.1⟩
          case measure => simp [RowKit.intOf]; omega
        | false =>
          have HE := Lib.hid (HFIN.out (Or.inr fun _ => by unfold isH; rw [htk, hz]; exact hbb))
          clear hz htk cH hd hbb hmin
          by_cases hk0 : k = 0
          · subst hk0
            obtain rfl : m = 2 := by omega
            rw [if_pos rfl, if_pos rfl] at HE
            rw [hmi]
            clear hmi hm
            go_wp2_with fail
            refine (CH.out _).mono ?_
            rintro e w' ⟨rfl, rfl⟩
            go_wp2_with fail
            go_ret2
            exact ⟨by rw [HE.out.1, HE.out.2]; rfl, rfl⟩
          · have g3 : ((m : Int) == 2) = false := by rw [beq_eq_false_iff_ne]; omega
            rw [if_neg hk0, if_neg hk0, hm] at HE
            have hfl := float_nat (m := n) (by omega)
            rw [← HN.out, ← hfl] at HE
            obtain ⟨X, hX⟩ : ∃ X, floatOfInt .f64 (n : Int) = X := ⟨_, rfl⟩
            rw [hfl] at hX
            rw [hfl, hX] at HE
            rw [hX] at hfl
            rw [hmi]
            clear hmi hm hk0 hX
            go_wp2_with fail
            refine (CH.out _).mono ?_
            rintro e w' ⟨rfl, rfl⟩
            go_wp2_with fail
            go_ret2
            exact ⟨by rw [HE.out.1, HE.out.2]; rfl, rfl⟩
      · have HE := Lib.hid (HFIN.out (by
          rcases (by omega : k = 13 ∨ t.length ≤ k) with h | h
          · exact Or.inl h
          · exact Or.inr fun hj => absurd hj (by omega)))
        have hlt : ¬ (m : Int) < min (s.size : Int) 15 := by omega
        clear hgo
        by_cases hk0 : k = 0
        · subst hk0
          obtain rfl : m = 2 := by omega
          rw [if_pos rfl, if_pos rfl] at HE
          rw [hmi]
          clear hmi hm
          go_wp2_with fail
          go_ret2
          exact ⟨by rw [HE.out.1, HE.out.2]; rfl, rfl⟩
        · have g3 : ((m : Int) == 2) = false := by rw [beq_eq_false_iff_ne]; omega
          rw [if_neg hk0, if_neg hk0, hm] at HE
          have hfl := float_nat (m := n) (by omega)
          rw [← HN.out, ← hfl] at HE
          obtain ⟨X, hX⟩ : ∃ X, floatOfInt .f64 (n : Int) = X := ⟨_, rfl⟩
          rw [hfl] at hX
          rw [hfl, hX] at HE
          rw [hX] at hfl
          rw [hmi]
          clear hmi hm hk0 hX
          go_wp2_with fail
          go_ret2
          exact ⟨by rw [HE.out.1, HE.out.2]; rfl, rfl⟩
end Go.Proofs.YtlpobomlnlakcaaGreatDoor

namespace Go.Proofs.YtlpobomlnlakcaaGreatDoor
open Go.RowKit Go.Lib

theorem nDig_take (l : List UInt8) : l.take (nDig l) = l.takeWhile isD := by
  have h : l.takeWhile isD ++ l.dropWhile isD = l := List.takeWhile_append_dropWhile
  unfold nDig
  conv => lhs; rw [← h]
  rw [List.take_left' ?_]
  rw [h]
theorem nDig_drop (l : List UInt8) : l.drop (nDig l) = l.dropWhile isD := by
  have h : l.takeWhile isD ++ l.dropWhile isD = l := List.takeWhile_append_dropWhile
  unfold nDig
  conv => lhs; rw [← h]
  rw [List.drop_left' ?_]
  rw [h]
theorem dec_takeWhile (l : List UInt8) : Dec (l.takeWhile isD) := fun c hc => isD_iff.1 (List.all_eq_true.1 List.all_takeWhile c hc)
/-- cutDigits, told by lists. -/
theorem cutDigits_l (s : ByteArray) (w : World) (hs : s.size ≤ 4611686018427387904) :
    Calls Tryz.prog 52 #[.string s] w fun e w' => e = .returned (.tuple #[.string ⟨(s.data.toList.takeWhile isD).toArray⟩, .string ⟨(s.data.toList.dropWhile isD).toArray⟩]) ∧ Below w.heap.size w w' := by
  have h := cutDigits_any s w hs
  have e1 : s.extract 0 (nDig s.data.toList) = ⟨(s.data.toList.takeWhile isD).toArray⟩ := by
    apply ByteArray.ext
    apply Array.ext'
    rw [Lib.extract_data, List.drop_zero, Nat.sub_zero, nDig_take]
  have e2 : s.extract (nDig s.data.toList) s.size = ⟨(s.data.toList.dropWhile isD).toArray⟩ := by
    apply ByteArray.ext
    apply Array.ext'
    rw [Lib.extract_data, List.take_of_length_le (by rw [List.length_drop, ba_len]; exact Nat.le_refl _), nDig_drop]
  rwa [e1, e2] at h
/-- The exponent that a text begins with, and what stands behind it. -/
def expL (l : List UInt8) : Int × List UInt8 :=
  match l with
  | [] => (0, [])
  | c :: t =>
    if c = 101 ∨ c = 69 then
      if (sgnL t).2.takeWhile isD = [] then (0, c :: t)
      else (if (sgnL t).1 = true then -(cntZ ((sgnL t).2.takeWhile isD) 1099511627776 : Int) else (cntZ ((sgnL t).2.takeWhile isD) 100000 : Int), (sgnL t).2.dropWhile isD)
    else (0, c :: t)
def ExpEnd (w : World) (l : List UInt8) (e : Ending) (w' : World) : Prop := e = .returned (.tuple #[.int .i64 (expL l).1, .string ⟨(expL l).2.toArray⟩]) ∧ Below w.heap.size w w'
theorem sgnL_len (t : List UInt8) : (sgnL t).2.length ≤ t.length := by
  unfold sgnL
  split <;> simp
theorem ba_of (s : ByteArray) {l : List UInt8} (h : s.data.toList = l) : s = ⟨l.toArray⟩ := by
  rw [← h]
set_option maxRecDepth 100000 in
set_option maxHeartbeats 2000000 in
theorem cutExp_any (s : ByteArray) (w : World) (hs : s.size ≤ 4611686018427387904) :
    Calls Tryz.prog 54 #[.string s] w (ExpEnd w s.data.toList) := by
  obtain ⟨l, hl⟩ : ∃ l, s.data.toList = l := ⟨_, rfl⟩
  have hlen : l.length = s.size := by rw [← hl, ba_len]
  have hsl := ba_of s hl
  rw [hl]
  cases l with
  | nil =>
    have HE := Lib.hid (show expL [] = (0, []) from rfl)
    subst hsl
    clear hl hlen
    go_enter Tryz.func54, Tryz.ntmps54
    go_wp2_with fail
    go_ret2
    exact ⟨by rw [HE.out]; rfl, Below.refl _ _⟩
  | cons c t =>
    have hne : ¬ s.toList = [] := by rw [Lib.toList_data, hl]; simp
    have hemp : s.toList.isEmpty = false := by rw [Lib.toList_data, hl]; rfl
    have hs1 : 0 < s.size := by rw [← hlen]; simp
    have hby : (s[0]'hs1) = c := by
      have h := ba_byte s hl 0 hs1
      exact (Option.some.inj h).symm
    obtain ⟨z, hz⟩ : ∃ z, c.toNat = z := ⟨_, rfl⟩
    have hzi : (((s[0]'hs1).toNat : Nat) : Int) = (z : Int) := by rw [hby, hz]
    have HSL := Lib.hid hsl
    by_cases hc : z = 101 ∨ z = 69
    · have hcc : c = 101 ∨ c = 69 := by
        rcases hc with h | h
        · exact Or.inl (UInt8.toNat_inj.1 (by rw [hz, h]; rfl))
        · exact Or.inr (UInt8.toNat_inj.1 (by rw [hz, h]; rfl))
      have htl : t.length + 1 = s.size := by rw [← hlen]; rfl
      obtain ⟨T, hT⟩ : ∃ T : ByteArray, s.extract 1 s.size = T := ⟨_, rfl⟩
      have hTl : T.data.toList = t := by
        rw [← hT, Lib.extract_data, hl, List.take_of_length_le (by rw [List.length_drop, List.length_cons]; omega)]
        rfl
      have c1 := fun W => cutSign_any T W
      rw [hTl] at c1
      have hsg := sgnL_len t
      have hex : expL (c :: t) = if (sgnL t).2.takeWhile isD = [] then (0, c :: t) else (if (sgnL t).1 = true then -(cntZ ((sgnL t).2.takeWhile isD) 1099511627776 : Int) else (cntZ ((sgnL t).2.takeWhile isD) 100000 : Int), (sgnL t).2.dropWhile isD) := by
        show (if c = 101 ∨ c = 69 then _ else _) = _
        rw [if_pos hcc]
      obtain ⟨b, hb⟩ : ∃ b, (sgnL t).1 = b := ⟨_, rfl⟩
      obtain ⟨r, hr⟩ : ∃ r, (sgnL t).2 = r := ⟨_, rfl⟩
      rw [hb, hr] at c1 hex
      rw [hr] at hsg
      obtain ⟨RB, hRB⟩ : ∃ RB : ByteArray, (⟨r.toArray⟩ : ByteArray) = RB := ⟨_, rfl⟩
      have hRl : RB.data.toList = r := by rw [← hRB]
      have hRs : RB.size ≤ 4611686018427387904 := by rw [← ba_len, hRl]; omega
      rw [hRB] at c1
      have c2 := fun W => cutDigits_l RB W hRs
      rw [hRl] at c2
      have hdd := dec_takeWhile r
      have hdlen : (r.takeWhile isD).length ≤ r.length := (List.takeWhile_prefix isD).length_le
      obtain ⟨dg, hdg⟩ : ∃ dg, r.takeWhile isD = dg := ⟨_, rfl⟩
      rw [hdg] at c2 hex hdd hdlen
      obtain ⟨rs, hrs⟩ : ∃ rs, r.dropWhile isD = rs := ⟨_, rfl⟩
      rw [hrs] at c2 hex
      obtain ⟨DB, hDB⟩ : ∃ DB : ByteArray, (⟨dg.toArray⟩ : ByteArray) = DB := ⟨_, rfl⟩
      have hDl : DB.data.toList = dg := by rw [← hDB]
      have hDs : DB.size ≤ 4611686018427387904 := by rw [← ba_len, hDl]; omega
      rw [hDB] at c2
      obtain ⟨RS, hRS⟩ : ∃ RS : ByteArray, (⟨rs.toArray⟩ : ByteArray) = RS := ⟨_, rfl⟩
      rw [hRS] at c2
      have c3 := fun W => count_any DB 1099511627776 W hDs (by rw [hDl]; exact hdd) (by omega)
      have c4 := fun W => count_any DB 100000 W hDs (by rw [hDl]; exact hdd) (by omega)
      rw [hDl] at c3 c4
      have C1 := Lib.hid c1
      have C2 := Lib.hid c2
      have C3 := Lib.hid c3
      have C4 := Lib.hid c4
      have HEX := Lib.hid hex
      have HRS := Lib.hid hRS
      have hsI : (1 : Int) ≤ (s.size : Int) := by omega
      have hlst : DB.toList = dg := by rw [Lib.toList_data, hDl]
      obtain ⟨v3, hv3⟩ : ∃ v : Nat, cntZ dg 1099511627776 = v := ⟨_, rfl⟩
      have hv3b : v3 ≤ 1099511627776 := by rw [← hv3]; exact Nat.min_le_right _ _
      have HV3 := Lib.hid hv3
      have HDL := Lib.hid hlst
      have hZ : ((z : Int) != 101) = false ∨ (((z : Int) != 101) = true ∧ ((z : Int) != 69) = false) := by
        rcases hc with h | h
        · left; rw [bne_eq_false_iff_eq]; omega
        · right; rw [bne_iff_ne, bne_eq_false_iff_eq]; omega
      by_cases hd0 : dg = []
      · have e1 : DB.toList = [] := by rw [hlst, hd0]
        have e2 : DB.toList.isEmpty = true := by rw [e1]; rfl
        have HE := Lib.hid (show expL (c :: t) = (0, c :: t) by rw [hex, if_pos hd0])
        clear hl hlen hby hz hsl hc hcc hTl c1 c2 c3 c4 hsg hex hb hr hRB hRl hRs hdd hdlen hdg hrs hDB hDl hDs hRS hlst hv3 hd0 e1 htl
        rcases hZ with h1 | ⟨h1, h2⟩
        all_goals
          go_enter Tryz.func54, Tryz.ntmps54
          go_wp2_with fail
          refine (C1.out _).mono ?_
          rintro e w' ⟨rfl, rfl⟩
          go_wp2_with fail
          refine (C2.out _).mono ?_
          rintro e w2 ⟨rfl, hB⟩
          go_wp2_with fail
          go_ret2
          exact ⟨by rw [HE.out, HSL.out]; rfl, hB⟩
      · have e2 : DB.toList.isEmpty = false := by rw [hlst]; cases dg with | nil => exact absurd rfl hd0 | cons x y => rfl
        have e1 : ¬ DB.toList = [] := by rw [hlst]; exact hd0
        rw [if_neg hd0] at hex
        cases b with
        | true =>
          have HE := Lib.hid (show expL (c :: t) = (-(v3 : Int), rs) by rw [hex, if_pos rfl, hv3])
          rw [hv3] at c3
          have C3 := Lib.hid c3
          clear hl hlen hby hz hsl hc hcc hTl c1 c2 c3 c4 hsg hex hb hr hRB hRl hRs hdd hdlen hdg hrs hDB hDl hDs hRS hlst hv3 hd0 htl
          rcases hZ with h1 | ⟨h1, h2⟩
          all_goals
            go_enter Tryz.func54, Tryz.ntmps54
            go_wp2_with fail
            refine (C1.out _).mono ?_
            rintro e w' ⟨rfl, rfl⟩
            go_wp2_with fail
            refine (C2.out _).mono ?_
            rintro e w2 ⟨rfl, hB⟩
            go_wp2_with fail
            refine (C3.out _).mono ?_
            rintro e w' ⟨rfl, rfl⟩
            go_wp2_with fail
            go_ret2
            exact ⟨by rw [HE.out, HRS.out]; rfl, hB⟩
        | false =>
          have HE := Lib.hid (show expL (c :: t) = ((cntZ dg 100000 : Int), rs) by rw [hex, if_neg (by decide)])
          clear hl hlen hby hz hsl hc hcc hTl c1 c2 c3 c4 hsg hex hb hr hRB hRl hRs hdd hdlen hdg hrs hDB hDl hDs hRS hlst hv3 hd0 htl
          rcases hZ with h1 | ⟨h1, h2⟩
          all_goals
            go_enter Tryz.func54, Tryz.ntmps54
            go_wp2_with fail
            refine (C1.out _).mono ?_
            rintro e w' ⟨rfl, rfl⟩
            go_wp2_with fail
            refine (C2.out _).mono ?_
            rintro e w2 ⟨rfl, hB⟩
            go_wp2_with fail
            refine (C4.out _).mono ?_
            rintro e w' ⟨rfl, rfl⟩
            go_wp2_with fail
            go_ret2
            exact ⟨by rw [HE.out, HRS.out]; rfl, hB⟩
    · have HE := Lib.hid (show expL (c :: t) = (0, c :: t) by
        show (if c = 101 ∨ c = 69 then _ else _) = _
        rw [if_neg]
        rintro (h | h)
        · subst h; exact hc (Or.inl hz.symm)
        · subst h; exact hc (Or.inr hz.symm))
      have h1 : ((z : Int) != 101) = true := by rw [bne_iff_ne]; omega
      have h2 : ((z : Int) != 69) = true := by rw [bne_iff_ne]; omega
      clear hl hlen hby hz hsl hc
      go_enter Tryz.func54, Tryz.ntmps54
      go_wp2_with fail
      go_ret2
      exact ⟨by rw [HE.out, HSL.out]; rfl, Below.refl _ _⟩
end Go.Proofs.YtlpobomlnlakcaaGreatDoor
