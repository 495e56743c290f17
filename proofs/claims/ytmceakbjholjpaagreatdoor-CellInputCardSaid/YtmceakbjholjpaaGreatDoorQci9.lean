/- Several texts in one (The definition of layer 4: value, of more than 1000 digits behind the noughts; Plain: the texts of a float by e, f and g, and what is read of them. No walk here; Contracts of layer 5: fixed, sci, general; Contracts of layer 5: general, Signbit, pointed; Contracts of layer 5: Signbit, and the pieces of a number with a point (pointed)). -/
import Derived.Deep.RegionWith
import Derived.Deep.QuietTactic
import Derived.BigQuiet
import Derived.Deep.RegionHeld3
import Derived.Deep.DeepCutAuto
import Derived.Test.YtmceakbjholjpaaGreatDoorQci5
import Derived.Test.YtmceakbjholjpaaGreatDoorQci7
import Derived.Test.YtmceakbjholjpaaGreatDoorQci8
namespace Go.Proofs.YtmceakbjholjpaaGreatDoor
open Go.RowKit Go.Lib

theorem near_same {X D X' D' r : Nat} (hD : 0 < D) (hD' : 0 < D') (h : X * D' = X' * D) (a : Near X D r) : Near X' D' r := by
  have le1 : ∀ M, M * D ≤ X → M * D' ≤ X' := fun M hM => by
    refine Nat.le_of_mul_le_mul_right (c := D) ?_ hD
    rw [← h, Nat.mul_right_comm]
    exact Nat.mul_le_mul_right _ hM
  have le2 : ∀ M, X ≤ M * D → X' ≤ M * D' := fun M hM => by
    refine Nat.le_of_mul_le_mul_right (c := D) ?_ hD
    rw [← h, Nat.mul_right_comm]
    exact Nat.mul_le_mul_right _ hM
  have eq2 : ∀ M, X' = M * D' → X = M * D := fun M hM => by
    exact Nat.eq_of_mul_eq_mul_right hD' (by rw [h, hM, Nat.mul_right_comm])
  exact ⟨fun q e => le1 _ (a.lo q e), fun q e g => a.loe q e (eq2 _ g.symm).symm, fun g => le2 _ (a.hi g), fun g e => a.hie g (eq2 _ e), a.top⟩
/-- Are the digits from the thousandth on all noughts? -/
def rsN (T : List UInt8) (i : Nat) : Nat := if ((T.take i).drop 1000).all (· == 48) = true then 48 else 49
theorem rsN_start (T : List UInt8) : rsN T 1000 = 48 := by
  unfold rsN
  rw [List.drop_eq_nil_of_le (by rw [List.length_take]; omega)]
  rfl
theorem rsN_step {T : List UInt8} {i : Nat} (h1 : 1000 ≤ i) (h2 : i < T.length) : rsN T (i + 1) = if T[i].toNat = 48 then rsN T i else 49 := by
  unfold rsN
  have e : (T.take (i + 1)).drop 1000 = (T.take i).drop 1000 ++ [T[i]] := by
    have e0 : T.take (i + 1) = T.take i ++ [T[i]] := List.take_succ_eq_append_getElem h2
    rw [e0, List.drop_append_of_le_length (by rw [List.length_take]; omega)]
  rw [e, List.all_append]
  by_cases hc : T[i].toNat = 48
  · have hb : (T[i] == 48) = true := by rw [beq_iff_eq]; exact UInt8.toNat_inj.1 (by rw [hc]; rfl)
    rw [if_pos hc]
    simp only [List.all_cons, List.all_nil, hb, Bool.and_true]
  · have hb : (T[i] == 48) = false := by rw [beq_eq_false_iff_ne]; intro e; exact hc (by rw [e]; rfl)
    rw [if_neg hc]
    simp only [List.all_cons, List.all_nil, hb, Bool.and_false, Bool.false_and]
    rfl
theorem rsN_two (T : List UInt8) (i : Nat) : rsN T i = 48 ∨ rsN T i = 49 := by
  unfold rsN
  split
  · exact Or.inl rfl
  · exact Or.inr rfl
theorem drop_all {l : List UInt8} {p : UInt8 → Bool} : l.dropWhile p = [] ↔ l.all p = true := by
  induction l with
  | nil => exact ⟨fun _ => rfl, fun _ => rfl⟩
  | cons c t ih =>
    rw [List.dropWhile_cons, List.all_cons]
    cases h : p c with
    | true => rw [if_pos rfl, Bool.true_and]; exact ih
    | false => rw [if_neg (by decide), Bool.false_and]; exact ⟨fun e => (by cases e), fun e => (by cases e)⟩
theorem reorder {s P t a b c u v z : Nat} (e : t * a * b = c * u * v) : s * (P * t * a) * z * b = s * (P * c * u) * z * v := by
  calc s * (P * t * a) * z * b = s * P * z * (t * a * b) := by ac_rfl
    _ = s * P * z * (c * u * v) := by rw [e]
    _ = s * (P * c * u) * z * v := by ac_rfl
/-- What the cut digits give is the whole's. -/
theorem cut_thousand {T : List UInt8} {m : Nat} {x E : Int} (hTl : T.length = m) (hm : 1000 < m) (hd : Dec T) (hlead : 10 ^ (m - 1) ≤ pv T) (hE : x + (m : Int) - 1001 = E) {d : UInt8} (hdd : d.toNat = rsN T m) {r : Nat}
    (h : Near (2 * (pv (T.take 1000 ++ [d]) * 10 ^ E.toNat) * S1074) (10 ^ (-E).toNat) r) : Near (2 * (pv T * 10 ^ x.toNat) * S1074) (10 ^ (-x).toNat) r := by
  have hs : pv T = pv (T.take 1000) * 10 ^ (m - 1000) + pv (T.drop 1000) := by
    have e := pv_append (T.take 1000) (T.drop 1000)
    rw [List.take_append_drop, List.length_drop, hTl] at e
    exact e
  have hdl := pv_lt (fun c hc => hd c (List.drop_subset _ _ hc) : Dec (T.drop 1000))
  rw [List.length_drop, hTl] at hdl
  have hall : (T.take m).drop 1000 = T.drop 1000 := by rw [List.take_of_length_le (by omega)]
  obtain ⟨P, hP⟩ : ∃ P, pv (T.take 1000) = P := ⟨_, rfl⟩
  rw [hP] at hs
  obtain ⟨q, hq⟩ : ∃ q : Nat, q = 999 := ⟨_, rfl⟩
  have hPb : 10 ^ q ≤ P := by
    rcases Nat.lt_or_ge P (10 ^ q) with hlt | hge
    · exfalso
      have h1 : pv T < (P + 1) * 10 ^ (m - 1000) := by rw [hs, Nat.succ_mul]; omega
      have h2 : (P + 1) * 10 ^ (m - 1000) ≤ 10 ^ q * 10 ^ (m - 1000) := Nat.mul_le_mul_right _ hlt
      rw [← Nat.pow_add, show q + (m - 1000) = m - 1 by omega] at h2
      omega
    · exact hge
  rw [pv_append, hP] at h
  by_cases hz : ((T.take m).drop 1000).all (· == 48) = true
  · have hd48 : d = 48 := UInt8.toNat_inj.1 (by rw [hdd]; unfold rsN; rw [if_pos hz]; rfl)
    have hz0 : pv (T.drop 1000) = 0 := by
      rw [hall] at hz
      rw [← pv_trim]
      have : (T.drop 1000).dropWhile (· == 48) = [] := drop_all.2 hz
      rw [this]
      rfl
    rw [hz0, Nat.add_zero] at hs
    rw [hd48, show pv [48] = 0 by decide, Nat.add_zero, List.length_singleton, Nat.pow_one] at h
    refine near_same (Nat.pow_pos (by omega)) (Nat.pow_pos (by omega)) ?_ h
    rw [hs]
    have e : 10 * 10 ^ E.toNat * 10 ^ (-x).toNat = 10 ^ (m - 1000) * 10 ^ x.toNat * 10 ^ (-E).toNat := by
      rw [← Nat.pow_succ', ← Nat.pow_add, ← Nat.pow_add, ← Nat.pow_add]
      congr 1
      omega
    exact reorder e
  · have hd49 : d = 49 := UInt8.toNat_inj.1 (by rw [hdd]; unfold rsN; rw [if_neg hz]; rfl)
    have hpos : 0 < pv (T.drop 1000) := by
      refine pv_zero_iff (fun c hc => hd c (List.drop_subset _ _ hc)) ?_
      intro e
      rw [hall] at hz
      exact hz (drop_all.1 e)
    rw [hd49, show pv [49] = 1 by decide, List.length_singleton, Nat.pow_one] at h
    obtain ⟨t, ht⟩ : ∃ t : Nat, t = 768 := ⟨_, rfl⟩
    refine near_cut (P := P) (n := P * 10 + 1) (k := 1) (k' := m - 1000) (y := E) (t := t) ht (Nat.le_trans (Nat.pow_le_pow_right (by omega) (by omega)) hPb) (by omega) ?_ ?_ ?_ ?_ h
    · rw [Nat.pow_one]; exact Nat.lt_succ_self _
    · rw [Nat.pow_one, Nat.succ_mul]; omega
    · rw [hs]; omega
    · rw [hs, Nat.succ_mul]; omega
theorem own_empty (w : World) (t : TypeId) : Own .u8 (w.alloc (.cells #[] t)) w.heap.size t (.slice (some ⟨w.heap.size, 0, none⟩) 0 0) [] :=
  own_of_at (R := []) ⟨#[], heap_alloc_new w _, rfl⟩ (Nat.le_refl _) rfl (by decide)
set_option maxRecDepth 100000 in
set_option maxHeartbeats 2000000 in
theorem rvalue_low_long (g o n m k cap : Nat) (ds : List UInt8) (x : Int) (w : World) (hn : ds.length = n) (hk : nz ds = k) (hkm : n = k + m) (hm : 1000 < m) (hm9 : m ≤ 100000) (hcap : n ≤ cap) (hcm : cap ≤ 9223372036854775807) (hx0 : -1000000 ≤ x) (hx9 : x ≤ 1000000) (hd : Dec ds) (hra : Rd .u8 w (some ⟨g, o, none⟩) (cod ds)) (hx : x + (m : Int) < -400) :
    Calls Tryz.prog 158 #[.slice (some ⟨g, o, none⟩) n cap, .int .i64 x] w (RVal w (2 * (pv ds * 10 ^ x.toNat) * S1074) (10 ^ (-x).toNat)) := by
  obtain ⟨i0, hi, hz0, hz1, hz2⟩ := info_parts info_u8
  have hTl : (ds.drop k).length = m := by rw [List.length_drop]; omega
  have HA := Lib.hid (fun (j : Nat) (hj : j < k) => show w.cell? ⟨g, o + j, none⟩ = some (.int .u8 48) by
    rw [rd_cell hra (j := j) (by omega), nz_at (by omega)]
    rfl)
  obtain ⟨z, hz⟩ : ∃ z, (ds[k]'(by omega)).toNat = z := ⟨_, rfl⟩
  have hzc : w.cell? ⟨g, o + k, none⟩ = some (.int .u8 (z : Int)) := by rw [rd_cell hra (j := k) (by omega), hz]
  have hz48 : z ≠ 48 := by
    intro e
    subst hk
    exact nz_stop (l := ds) (by omega) (UInt8.toNat_inj.1 (by rw [hz, e]; rfl))
  have hzb : ((z : Int) == 48) = false := by rw [beq_eq_false_iff_ne]; omega
  have hp := nz_pv ds
  rw [hk] at hp
  have hTd : Dec (ds.drop k) := fun c hc => hd c (List.drop_subset _ _ hc)
  have hlead : 10 ^ (m - 1) ≤ pv (ds.drop k) := by
    have h := lead_ge hd (by omega)
    rwa [hk, hTl] at h
  have hlt := pv_lt hTd
  rw [hTl] at hlt
  rw [hp]
  have hrT : Rd .u8 w (some ⟨g, o + k, none⟩) (cod (ds.drop k)) := rd_drop hra
  obtain ⟨T, hT⟩ : ∃ T, ds.drop k = T := ⟨_, rfl⟩
  rw [hT] at hTl hTd hlead hlt hrT
  rw [hT]
  have HCT := Lib.hid (fun (j : Nat) (hj : j < m) (hj2 : j < T.length) => show w.cell? ⟨g, o + k + j, none⟩ = some (.int .u8 (((T[j]'hj2).toNat : Nat) : Int)) from rd_cell hrT hj2)
  have HTL := Lib.hid hTl
  have HST := Lib.hid (fun (i : Nat) (h1 : 1000 ≤ i) (h2 : i < T.length) => show rsN T (i + 1) = if (T[i]'h2).toNat = 48 then rsN T i else 49 from rsN_step h1 h2)
  have HS0 := Lib.hid (rsN_start T)
  obtain ⟨E, hE⟩ : ∃ E, x + (m : Int) - 1001 = E := ⟨_, rfl⟩
  have hKt : (T.take 1000).length = 1000 := by rw [List.length_take]; omega
  have HNW := Lib.hid (fun (W : World) (hb : Below w.heap.size w W) => show Rd .u8 W (some ⟨g, o + k, none⟩) (cod (T.take 1000)) by
    have h := (hrT.below hb).take 1000
    have e : (cod T).take 1000 = cod (T.take 1000) := List.map_take.symm
    rwa [e] at h)
  have HKd := Lib.hid (show Dec (T.take 1000) from fun c hc => hTd c (List.take_subset _ _ hc))
  have HKL := Lib.hid hKt
  have HZ := Lib.hid (near_low_end (e := x) hlt hx)
  have g1 : E + 1001 < -400 := by omega
  obtain ⟨XX, hXX⟩ : ∃ XX, 2 * (pv T * 10 ^ x.toNat) * S1074 = XX := ⟨_, rfl⟩
  obtain ⟨DD, hDD⟩ : ∃ DD, 10 ^ (-x).toNat = DD := ⟨_, rfl⟩
  rw [hXX, hDD] at HZ ⊢
  have hnk : (n : Int) - (k : Int) = (m : Int) := by omega
  have hnk2 : n - k = m := by omega
  have hck : ¬ cap = k := by omega
  have h1000 : 1000 ≤ cap - k := by omega
  have h1000i : (1000 : Int) ≤ ((cap - k : Nat) : Int) := by omega
  have hEb1 : -2000000 ≤ E := by omega
  have hEb2 : E ≤ 2000000 := by omega
  clear hTl hTd hlead hlt hp hz hz48 hra hd hn hk hT hrT hKt hXX hDD hx
  go_enter Tryz.func158, Tryz.ntmps158
  go_wp2
  go_loop [5] (fun kv => ∃ j : Nat, j ≤ k ∧ kv = .int .i64 (j : Int)) (fun kv => k - (RowKit.intOf kv).toNat)
  case atStart => exact ⟨0, by omega, rfl⟩
  case round =>
    obtain ⟨j, hj, rfl⟩ := hrel
    by_cases hlt : j < k
    · have hcell := HA.out j hlt
      go_wp2_with fail
      go_round
      case rel => exact ⟨j + 1, by omega, by go_num⟩
      case measure => simp [RowKit.intOf]; omega
    · obtain rfl : k = j := by omega
      go_wp2_with fail
      go_loop [6, 7] (fun rv iv => ∃ i r : Nat, 1000 ≤ i ∧ i ≤ m ∧ iv = .int .i64 (i : Int) ∧ rv = .int .u8 (r : Int) ∧ r = rsN T i) (fun _ iv => m - (RowKit.intOf iv).toNat)
      case atStart => exact ⟨1000, 48, by omega, by omega, rfl, rfl, HS0.out.symm⟩
      case round =>
        obtain ⟨i, r, hi1, hi2, rfl, rfl, hr⟩ := hrel
        have HR := Lib.hid hr
        clear hr
        by_cases him : i < m
        · have him2 : i < T.length := by rw [HTL.out]; exact him
          have hcell := HCT.out i him him2
          have hst := HST.out i hi1 him2
          obtain ⟨y, hy⟩ : ∃ y, (T[i]'him2).toNat = y := ⟨_, rfl⟩
          rw [hy] at hcell hst
          have hcell2 : w.cell? ⟨g, o + (k + i), none⟩ = some (.int .u8 (y : Int)) := by rw [← Nat.add_assoc]; exact hcell
          have hyb := hy ▸ UInt8.toNat_lt (T[i]'him2)
          clear hy
          by_cases hy48 : y = 48
          · have hb : ((y : Int) != 48) = false := by rw [bne_eq_false_iff_eq]; omega
            rw [if_pos hy48] at hst
            have HN := Lib.hid (show r = rsN T (i + 1) by rw [hst]; exact HR.out)
            clear hst hy48
            go_wp2_with fail
            go_round
            case rel => exact ⟨i + 1, r, by omega, by omega, by go_num, rfl, HN.out⟩
            case measure => simp [RowKit.intOf]; omega
          · have hb : ((y : Int) != 48) = true := by rw [bne_iff_ne]; omega
            rw [if_neg hy48] at hst
            have HN := Lib.hid hst.symm
            clear hst hy48
            go_wp2_with fail
            go_round
            case rel => exact ⟨i + 1, 49, by omega, by omega, by go_num, rfl, HN.out⟩
            case measure => simp [RowKit.intOf]; omega
        · obtain rfl : m = i := by omega
          have hr2 : r = 48 ∨ r = 49 := by rw [HR.out]; exact rsN_two T _
          have hE0 := own_empty w 5
          have hb1 := (Below.refl w.heap.size w).alloc (Nat.le_refl _) (.cells #[] 5)
          have hsrc := (HNW.out _ (Below.alloc (Below.refl w.heap.size w) (Nat.le_refl _) (.cells #[] 5))).news
          go_wp2_with (at_builtin; refine wpList_append_own _ rfl _ _ 138 rfl w.heap.size 5 i0 (.int .u8 0) 1 1 Tryz.underlying138 hi hz0 hz1 hz2 rfl (by decide) _ 0 [] rfl hE0 ⟨g, o + k, none⟩ 1000 (cap - k) (nums .u8 (cod (T.take 1000))) rfl ?c1 hsrc (nums_one _ _) ?c3 ?c4 ?c5 ?_)
          try (case c1 => rw [nums_len, cod_len]; have := HKL.out; omega)
          try (case c3 => unfold maxLen; omega)
          try (case c4 => omega)
          try (case c5 => simp)
          intro v1 w1 hown1 hgrow1 _
          have hO1 : Own .u8 w1 w.heap.size 5 v1 (cod (T.take 1000)) := by
            unfold Own
            rw [cod_len, HKL.out]
            exact hown1
          have hB1 : Below w.heap.size w w1 := hb1.grown hgrow1 (by simp) (fun z e => (World.ownsRow.lt hE0 z e).1)
          have hown2 := hO1.row (n := 1000) (by rw [cod_len]; exact HKL.out)
          have HO1 := Lib.hid hO1
          have hsz1 := hB1.size
          clear hown1 hgrow1 hO1 hsrc hE0 hb1
          go_wp2_with (at_builtin; refine wpList_append_own _ rfl _ _ 138 rfl w.heap.size 5 i0 (.int .u8 0) 1 1 Tryz.underlying138 hi hz0 hz1 hz2 rfl (by decide) _ 1000 _ rfl (hown2.alloc _) ⟨w1.heap.size, 0, none⟩ 1 1 [.int .u8 (r : Int)] rfl rfl (cell_one_new _ _ _) ?d2 ?d3 ?d4 ?d5 ?_)
          try (case d2 => simp [Value.oneCell'])
          try (case d3 => unfold maxLen; omega)
          try (case d4 => omega)
          try (case d5 => simp; omega)
          intro v2 w2 hown3 hgrow2 _
          have hO2 : Own .u8 w2 w.heap.size 5 v2 (cod (T.take 1000) ++ [r]) := Own.snoc hown3 (by rw [cod_len]; exact HKL.out.symm)
          have hB2 : Below w.heap.size w w2 := (hB1.alloc hsz1 _).grown hgrow2 (by simp; omega) (fun z e => (World.ownsRow.lt HO1.out z e).1)
          obtain ⟨d, hdr⟩ : ∃ d : UInt8, d.toNat = r := hr2.elim (fun h => ⟨48, by rw [h]; rfl⟩) (fun h => ⟨49, by rw [h]; rfl⟩)
          have hcod : cod (T.take 1000) ++ [r] = cod (T.take 1000 ++ [d]) := by rw [← hdr]; simp [cod]
          rw [hcod] at hO2
          have hLl : (T.take 1000 ++ [d]).length = 1001 := by rw [List.length_append, HKL.out]; rfl
          obtain ⟨A2, c2, rfl, hc21, hc22⟩ := hO2.slice
          rw [cod_len, hLl] at hc21
          rw [cod_len, hLl] at hO2 ⊢
          clear hown2 hown3 hgrow2 HO1 hcod hr2 hdr
          go_wp2_with fail
          go_ret
          exact ⟨0, rfl, HZ, hB2⟩
set_option maxRecDepth 100000 in
set_option maxHeartbeats 2000000 in
theorem rvalue_high_long (g o n m k cap : Nat) (ds : List UInt8) (x : Int) (w : World) (hn : ds.length = n) (hk : nz ds = k) (hkm : n = k + m) (hm : 1000 < m) (hm9 : m ≤ 100000) (hcap : n ≤ cap) (hcm : cap ≤ 9223372036854775807) (hx0 : -1000000 ≤ x) (hx9 : x ≤ 1000000) (hd : Dec ds) (hra : Rd .u8 w (some ⟨g, o, none⟩) (cod ds)) (hx : 400 < x + (m : Int)) :
    Calls Tryz.prog 158 #[.slice (some ⟨g, o, none⟩) n cap, .int .i64 x] w (RVal w (2 * (pv ds * 10 ^ x.toNat) * S1074) (10 ^ (-x).toNat)) := by
  obtain ⟨i0, hi, hz0, hz1, hz2⟩ := info_parts info_u8
  have hTl : (ds.drop k).length = m := by rw [List.length_drop]; omega
  have HA := Lib.hid (fun (j : Nat) (hj : j < k) => show w.cell? ⟨g, o + j, none⟩ = some (.int .u8 48) by
    rw [rd_cell hra (j := j) (by omega), nz_at (by omega)]
    rfl)
  obtain ⟨z, hz⟩ : ∃ z, (ds[k]'(by omega)).toNat = z := ⟨_, rfl⟩
  have hzc : w.cell? ⟨g, o + k, none⟩ = some (.int .u8 (z : Int)) := by rw [rd_cell hra (j := k) (by omega), hz]
  have hz48 : z ≠ 48 := by
    intro e
    subst hk
    exact nz_stop (l := ds) (by omega) (UInt8.toNat_inj.1 (by rw [hz, e]; rfl))
  have hzb : ((z : Int) == 48) = false := by rw [beq_eq_false_iff_ne]; omega
  have hp := nz_pv ds
  rw [hk] at hp
  have hTd : Dec (ds.drop k) := fun c hc => hd c (List.drop_subset _ _ hc)
  have hlead : 10 ^ (m - 1) ≤ pv (ds.drop k) := by
    have h := lead_ge hd (by omega)
    rwa [hk, hTl] at h
  have hlt := pv_lt hTd
  rw [hTl] at hlt
  rw [hp]
  have hrT : Rd .u8 w (some ⟨g, o + k, none⟩) (cod (ds.drop k)) := rd_drop hra
  obtain ⟨T, hT⟩ : ∃ T, ds.drop k = T := ⟨_, rfl⟩
  rw [hT] at hTl hTd hlead hlt hrT
  rw [hT]
  have HCT := Lib.hid (fun (j : Nat) (hj : j < m) (hj2 : j < T.length) => show w.cell? ⟨g, o + k + j, none⟩ = some (.int .u8 (((T[j]'hj2).toNat : Nat) : Int)) from rd_cell hrT hj2)
  have HTL := Lib.hid hTl
  have HST := Lib.hid (fun (i : Nat) (h1 : 1000 ≤ i) (h2 : i < T.length) => show rsN T (i + 1) = if (T[i]'h2).toNat = 48 then rsN T i else 49 from rsN_step h1 h2)
  have HS0 := Lib.hid (rsN_start T)
  obtain ⟨E, hE⟩ : ∃ E, x + (m : Int) - 1001 = E := ⟨_, rfl⟩
  have hKt : (T.take 1000).length = 1000 := by rw [List.length_take]; omega
  have HNW := Lib.hid (fun (W : World) (hb : Below w.heap.size w W) => show Rd .u8 W (some ⟨g, o + k, none⟩) (cod (T.take 1000)) by
    have h := (hrT.below hb).take 1000
    have e : (cod T).take 1000 = cod (T.take 1000) := List.map_take.symm
    rwa [e] at h)
  have HKd := Lib.hid (show Dec (T.take 1000) from fun c hc => hTd c (List.take_subset _ _ hc))
  have HKL := Lib.hid hKt
  have HZ := Lib.hid (near_high_end (e := x) hlead (by omega) hx)
  have hfr : ∀ W : World, (callFunc 18 #[.int .u64 9218868437227405312]).run Tryz.prog W = .ok (.value (.float .f64 9218868437227405312)) W := fun W => run_f64from 9218868437227405312 W
  have g1 : ¬ E + 1001 < -400 := by omega
  have g2 : 400 < E + 1001 := by omega
  obtain ⟨XX, hXX⟩ : ∃ XX, 2 * (pv T * 10 ^ x.toNat) * S1074 = XX := ⟨_, rfl⟩
  obtain ⟨DD, hDD⟩ : ∃ DD, 10 ^ (-x).toNat = DD := ⟨_, rfl⟩
  rw [hXX, hDD] at HZ ⊢
  have hnk : (n : Int) - (k : Int) = (m : Int) := by omega
  have hnk2 : n - k = m := by omega
  have hck : ¬ cap = k := by omega
  have h1000 : 1000 ≤ cap - k := by omega
  have h1000i : (1000 : Int) ≤ ((cap - k : Nat) : Int) := by omega
  have hEb1 : -2000000 ≤ E := by omega
  have hEb2 : E ≤ 2000000 := by omega
  clear hTl hTd hlead hlt hp hz hz48 hra hd hn hk hT hrT hKt hXX hDD hx
  go_enter Tryz.func158, Tryz.ntmps158
  go_wp2
  go_loop [5] (fun kv => ∃ j : Nat, j ≤ k ∧ kv = .int .i64 (j : Int)) (fun kv => k - (RowKit.intOf kv).toNat)
  case atStart => exact ⟨0, by omega, rfl⟩
  case round =>
    obtain ⟨j, hj, rfl⟩ := hrel
    by_cases hlt : j < k
    · have hcell := HA.out j hlt
      go_wp2_with fail
      go_round
      case rel => exact ⟨j + 1, by omega, by go_num⟩
      case measure => simp [RowKit.intOf]; omega
    · obtain rfl : k = j := by omega
      go_wp2_with fail
      go_loop [6, 7] (fun rv iv => ∃ i r : Nat, 1000 ≤ i ∧ i ≤ m ∧ iv = .int .i64 (i : Int) ∧ rv = .int .u8 (r : Int) ∧ r = rsN T i) (fun _ iv => m - (RowKit.intOf iv).toNat)
      case atStart => exact ⟨1000, 48, by omega, by omega, rfl, rfl, HS0.out.symm⟩
      case round =>
        obtain ⟨i, r, hi1, hi2, rfl, rfl, hr⟩ := hrel
        have HR := Lib.hid hr
        clear hr
        by_cases him : i < m
        · have him2 : i < T.length := by rw [HTL.out]; exact him
          have hcell := HCT.out i him him2
          have hst := HST.out i hi1 him2
          obtain ⟨y, hy⟩ : ∃ y, (T[i]'him2).toNat = y := ⟨_, rfl⟩
          rw [hy] at hcell hst
          have hcell2 : w.cell? ⟨g, o + (k + i), none⟩ = some (.int .u8 (y : Int)) := by rw [← Nat.add_assoc]; exact hcell
          have hyb := hy ▸ UInt8.toNat_lt (T[i]'him2)
          clear hy
          by_cases hy48 : y = 48
          · have hb : ((y : Int) != 48) = false := by rw [bne_eq_false_iff_eq]; omega
            rw [if_pos hy48] at hst
            have HN := Lib.hid (show r = rsN T (i + 1) by rw [hst]; exact HR.out)
            clear hst hy48
            go_wp2_with fail
            go_round
            case rel => exact ⟨i + 1, r, by omega, by omega, by go_num, rfl, HN.out⟩
            case measure => simp [RowKit.intOf]; omega
          · have hb : ((y : Int) != 48) = true := by rw [bne_iff_ne]; omega
            rw [if_neg hy48] at hst
            have HN := Lib.hid hst.symm
            clear hst hy48
            go_wp2_with fail
            go_round
            case rel => exact ⟨i + 1, 49, by omega, by omega, by go_num, rfl, HN.out⟩
            case measure => simp [RowKit.intOf]; omega
        · obtain rfl : m = i := by omega
          have hr2 : r = 48 ∨ r = 49 := by rw [HR.out]; exact rsN_two T _
          have hE0 := own_empty w 5
          have hb1 := (Below.refl w.heap.size w).alloc (Nat.le_refl _) (.cells #[] 5)
          have hsrc := (HNW.out _ (Below.alloc (Below.refl w.heap.size w) (Nat.le_refl _) (.cells #[] 5))).news
          go_wp2_with (at_builtin; refine wpList_append_own _ rfl _ _ 138 rfl w.heap.size 5 i0 (.int .u8 0) 1 1 Tryz.underlying138 hi hz0 hz1 hz2 rfl (by decide) _ 0 [] rfl hE0 ⟨g, o + k, none⟩ 1000 (cap - k) (nums .u8 (cod (T.take 1000))) rfl ?c1 hsrc (nums_one _ _) ?c3 ?c4 ?c5 ?_)
          try (case c1 => rw [nums_len, cod_len]; have := HKL.out; omega)
          try (case c3 => unfold maxLen; omega)
          try (case c4 => omega)
          try (case c5 => simp)
          intro v1 w1 hown1 hgrow1 _
          have hO1 : Own .u8 w1 w.heap.size 5 v1 (cod (T.take 1000)) := by
            unfold Own
            rw [cod_len, HKL.out]
            exact hown1
          have hB1 : Below w.heap.size w w1 := hb1.grown hgrow1 (by simp) (fun z e => (World.ownsRow.lt hE0 z e).1)
          have hown2 := hO1.row (n := 1000) (by rw [cod_len]; exact HKL.out)
          have HO1 := Lib.hid hO1
          have hsz1 := hB1.size
          clear hown1 hgrow1 hO1 hsrc hE0 hb1
          go_wp2_with (at_builtin; refine wpList_append_own _ rfl _ _ 138 rfl w.heap.size 5 i0 (.int .u8 0) 1 1 Tryz.underlying138 hi hz0 hz1 hz2 rfl (by decide) _ 1000 _ rfl (hown2.alloc _) ⟨w1.heap.size, 0, none⟩ 1 1 [.int .u8 (r : Int)] rfl rfl (cell_one_new _ _ _) ?d2 ?d3 ?d4 ?d5 ?_)
          try (case d2 => simp [Value.oneCell'])
          try (case d3 => unfold maxLen; omega)
          try (case d4 => omega)
          try (case d5 => simp; omega)
          intro v2 w2 hown3 hgrow2 _
          have hO2 : Own .u8 w2 w.heap.size 5 v2 (cod (T.take 1000) ++ [r]) := Own.snoc hown3 (by rw [cod_len]; exact HKL.out.symm)
          have hB2 : Below w.heap.size w w2 := (hB1.alloc hsz1 _).grown hgrow2 (by simp; omega) (fun z e => (World.ownsRow.lt HO1.out z e).1)
          obtain ⟨d, hdr⟩ : ∃ d : UInt8, d.toNat = r := hr2.elim (fun h => ⟨48, by rw [h]; rfl⟩) (fun h => ⟨49, by rw [h]; rfl⟩)
          have hcod : cod (T.take 1000) ++ [r] = cod (T.take 1000 ++ [d]) := by rw [← hdr]; simp [cod]
          rw [hcod] at hO2
          have hLl : (T.take 1000 ++ [d]).length = 1001 := by rw [List.length_append, HKL.out]; rfl
          obtain ⟨A2, c2, rfl, hc21, hc22⟩ := hO2.slice
          rw [cod_len, hLl] at hc21
          rw [cod_len, hLl] at hO2 ⊢
          clear hown2 hown3 hgrow2 HO1 hcod hr2 hdr
          go_wp2_with fail
          go_ret
          exact ⟨_, rfl, HZ, hB2⟩
set_option maxRecDepth 100000 in
set_option maxHeartbeats 2000000 in
theorem rvalue_mid_long (g o n m k cap : Nat) (ds : List UInt8) (x : Int) (w : World) (hn : ds.length = n) (hk : nz ds = k) (hkm : n = k + m) (hm : 1000 < m) (hm9 : m ≤ 100000) (hcap : n ≤ cap) (hcm : cap ≤ 9223372036854775807) (_hx0 : -1000000 ≤ x) (_hx9 : x ≤ 1000000) (hd : Dec ds) (hra : Rd .u8 w (some ⟨g, o, none⟩) (cod ds)) (hx1 : -400 ≤ x + (m : Int)) (hx2 : x + (m : Int) ≤ 400) :
    Calls Tryz.prog 158 #[.slice (some ⟨g, o, none⟩) n cap, .int .i64 x] w (RVal w (2 * (pv ds * 10 ^ x.toNat) * S1074) (10 ^ (-x).toNat)) := by
  obtain ⟨i0, hi, hz0, hz1, hz2⟩ := info_parts info_u8
  have hTl : (ds.drop k).length = m := by rw [List.length_drop]; omega
  have HA := Lib.hid (fun (j : Nat) (hj : j < k) => show w.cell? ⟨g, o + j, none⟩ = some (.int .u8 48) by
    rw [rd_cell hra (j := j) (by omega), nz_at (by omega)]
    rfl)
  obtain ⟨z, hz⟩ : ∃ z, (ds[k]'(by omega)).toNat = z := ⟨_, rfl⟩
  have hzc : w.cell? ⟨g, o + k, none⟩ = some (.int .u8 (z : Int)) := by rw [rd_cell hra (j := k) (by omega), hz]
  have hz48 : z ≠ 48 := by
    intro e
    subst hk
    exact nz_stop (l := ds) (by omega) (UInt8.toNat_inj.1 (by rw [hz, e]; rfl))
  have hzb : ((z : Int) == 48) = false := by rw [beq_eq_false_iff_ne]; omega
  have hp := nz_pv ds
  rw [hk] at hp
  have hTd : Dec (ds.drop k) := fun c hc => hd c (List.drop_subset _ _ hc)
  have hlead : 10 ^ (m - 1) ≤ pv (ds.drop k) := by
    have h := lead_ge hd (by omega)
    rwa [hk, hTl] at h
  have hlt := pv_lt hTd
  rw [hTl] at hlt
  rw [hp]
  have hrT : Rd .u8 w (some ⟨g, o + k, none⟩) (cod (ds.drop k)) := rd_drop hra
  obtain ⟨T, hT⟩ : ∃ T, ds.drop k = T := ⟨_, rfl⟩
  rw [hT] at hTl hTd hlead hlt hrT
  rw [hT]
  have HCT := Lib.hid (fun (j : Nat) (hj : j < m) (hj2 : j < T.length) => show w.cell? ⟨g, o + k + j, none⟩ = some (.int .u8 (((T[j]'hj2).toNat : Nat) : Int)) from rd_cell hrT hj2)
  have HTL := Lib.hid hTl
  have HST := Lib.hid (fun (i : Nat) (h1 : 1000 ≤ i) (h2 : i < T.length) => show rsN T (i + 1) = if (T[i]'h2).toNat = 48 then rsN T i else 49 from rsN_step h1 h2)
  have HS0 := Lib.hid (rsN_start T)
  obtain ⟨E, hE⟩ : ∃ E, x + (m : Int) - 1001 = E := ⟨_, rfl⟩
  have hKt : (T.take 1000).length = 1000 := by rw [List.length_take]; omega
  have HNW := Lib.hid (fun (W : World) (hb : Below w.heap.size w W) => show Rd .u8 W (some ⟨g, o + k, none⟩) (cod (T.take 1000)) by
    have h := (hrT.below hb).take 1000
    have e : (cod T).take 1000 = cod (T.take 1000) := List.map_take.symm
    rwa [e] at h)
  have HKd := Lib.hid (show Dec (T.take 1000) from fun c hc => hTd c (List.take_subset _ _ hc))
  have HKL := Lib.hid hKt
  have HM := Lib.hid (fun (d : UInt8) (hdd : d.toNat = rsN T m) (r : Nat) h => cut_thousand (r := r) hTl hm hTd hlead hE hdd h)
  have g1 : ¬ E + 1001 < -400 := by omega
  have g2 : ¬ 400 < E + 1001 := by omega
  obtain ⟨XX, hXX⟩ : ∃ XX, 2 * (pv T * 10 ^ x.toNat) * S1074 = XX := ⟨_, rfl⟩
  obtain ⟨DD, hDD⟩ : ∃ DD, 10 ^ (-x).toNat = DD := ⟨_, rfl⟩
  rw [hXX, hDD] at HM ⊢
  have hnk : (n : Int) - (k : Int) = (m : Int) := by omega
  have hnk2 : n - k = m := by omega
  have hck : ¬ cap = k := by omega
  have h1000 : 1000 ≤ cap - k := by omega
  have h1000i : (1000 : Int) ≤ ((cap - k : Nat) : Int) := by omega
  have hEb1 : -2000000 ≤ E := by omega
  have hEb2 : E ≤ 2000000 := by omega
  clear hTl hTd hlead hlt hp hz hz48 hra hd hn hk hT hrT hKt hXX hDD hx1 hx2
  go_enter Tryz.func158, Tryz.ntmps158
  go_wp2
  go_loop [5] (fun kv => ∃ j : Nat, j ≤ k ∧ kv = .int .i64 (j : Int)) (fun kv => k - (RowKit.intOf kv).toNat)
  case atStart => exact ⟨0, by omega, rfl⟩
  case round =>
    obtain ⟨j, hj, rfl⟩ := hrel
    by_cases hlt : j < k
    · have hcell := HA.out j hlt
      go_wp2_with fail
      go_round
      case rel => exact ⟨j + 1, by omega, by go_num⟩
      case measure => simp [RowKit.intOf]; omega
    · obtain rfl : k = j := by omega
      go_wp2_with fail
      go_loop [6, 7] (fun rv iv => ∃ i r : Nat, 1000 ≤ i ∧ i ≤ m ∧ iv = .int .i64 (i : Int) ∧ rv = .int .u8 (r : Int) ∧ r = rsN T i) (fun _ iv => m - (RowKit.intOf iv).toNat)
      case atStart => exact ⟨1000, 48, by omega, by omega, rfl, rfl, HS0.out.symm⟩
      case round =>
        obtain ⟨i, r, hi1, hi2, rfl, rfl, hr⟩ := hrel
        have HR := Lib.hid hr
        clear hr
        by_cases him : i < m
        · have him2 : i < T.length := by rw [HTL.out]; exact him
          have hcell := HCT.out i him him2
          have hst := HST.out i hi1 him2
          obtain ⟨y, hy⟩ : ∃ y, (T[i]'him2).toNat = y := ⟨_, rfl⟩
          rw [hy] at hcell hst
          have hcell2 : w.cell? ⟨g, o + (k + i), none⟩ = some (.int .u8 (y : Int)) := by rw [← Nat.add_assoc]; exact hcell
          have hyb := hy ▸ UInt8.toNat_lt (T[i]'him2)
          clear hy
          by_cases hy48 : y = 48
          · have hb : ((y : Int) != 48) = false := by rw [bne_eq_false_iff_eq]; omega
            rw [if_pos hy48] at hst
            have HN := Lib.hid (show r = rsN T (i + 1) by rw [hst]; exact HR.out)
            clear hst hy48
            go_wp2_with fail
            go_round
            case rel => exact ⟨i + 1, r, by omega, by omega, by go_num, rfl, HN.out⟩
            case measure => simp [RowKit.intOf]; omega
          · have hb : ((y : Int) != 48) = true := by rw [bne_iff_ne]; omega
            rw [if_neg hy48] at hst
            have HN := Lib.hid hst.symm
            clear hst hy48
            go_wp2_with fail
            go_round
            case rel => exact ⟨i + 1, 49, by omega, by omega, by go_num, rfl, HN.out⟩
            case measure => simp [RowKit.intOf]; omega
        · obtain rfl : m = i := by omega
          have hr2 : r = 48 ∨ r = 49 := by rw [HR.out]; exact rsN_two T _
          have hE0 := own_empty w 5
          have hb1 := (Below.refl w.heap.size w).alloc (Nat.le_refl _) (.cells #[] 5)
          have hsrc := (HNW.out _ (Below.alloc (Below.refl w.heap.size w) (Nat.le_refl _) (.cells #[] 5))).news
          go_wp2_with (at_builtin; refine wpList_append_own _ rfl _ _ 138 rfl w.heap.size 5 i0 (.int .u8 0) 1 1 Tryz.underlying138 hi hz0 hz1 hz2 rfl (by decide) _ 0 [] rfl hE0 ⟨g, o + k, none⟩ 1000 (cap - k) (nums .u8 (cod (T.take 1000))) rfl ?c1 hsrc (nums_one _ _) ?c3 ?c4 ?c5 ?_)
          try (case c1 => rw [nums_len, cod_len]; have := HKL.out; omega)
          try (case c3 => unfold maxLen; omega)
          try (case c4 => omega)
          try (case c5 => simp)
          intro v1 w1 hown1 hgrow1 _
          have hO1 : Own .u8 w1 w.heap.size 5 v1 (cod (T.take 1000)) := by
            unfold Own
            rw [cod_len, HKL.out]
            exact hown1
          have hB1 : Below w.heap.size w w1 := hb1.grown hgrow1 (by simp) (fun z e => (World.ownsRow.lt hE0 z e).1)
          have hown2 := hO1.row (n := 1000) (by rw [cod_len]; exact HKL.out)
          have HO1 := Lib.hid hO1
          have hsz1 := hB1.size
          clear hown1 hgrow1 hO1 hsrc hE0 hb1
          go_wp2_with (at_builtin; refine wpList_append_own _ rfl _ _ 138 rfl w.heap.size 5 i0 (.int .u8 0) 1 1 Tryz.underlying138 hi hz0 hz1 hz2 rfl (by decide) _ 1000 _ rfl (hown2.alloc _) ⟨w1.heap.size, 0, none⟩ 1 1 [.int .u8 (r : Int)] rfl rfl (cell_one_new _ _ _) ?d2 ?d3 ?d4 ?d5 ?_)
          try (case d2 => simp [Value.oneCell'])
          try (case d3 => unfold maxLen; omega)
          try (case d4 => omega)
          try (case d5 => simp; omega)
          intro v2 w2 hown3 hgrow2 _
          have hO2 : Own .u8 w2 w.heap.size 5 v2 (cod (T.take 1000) ++ [r]) := Own.snoc hown3 (by rw [cod_len]; exact HKL.out.symm)
          have hB2 : Below w.heap.size w w2 := (hB1.alloc hsz1 _).grown hgrow2 (by simp; omega) (fun z e => (World.ownsRow.lt HO1.out z e).1)
          obtain ⟨d, hdr⟩ : ∃ d : UInt8, d.toNat = r := hr2.elim (fun h => ⟨48, by rw [h]; rfl⟩) (fun h => ⟨49, by rw [h]; rfl⟩)
          have hcod : cod (T.take 1000) ++ [r] = cod (T.take 1000 ++ [d]) := by rw [← hdr]; simp [cod]
          rw [hcod] at hO2
          have hLl : (T.take 1000 ++ [d]).length = 1001 := by rw [List.length_append, HKL.out]; rfl
          obtain ⟨A2, c2, rfl, hc21, hc22⟩ := hO2.slice
          rw [cod_len, hLl] at hc21
          rw [cod_len, hLl] at hO2 ⊢
          obtain ⟨g2, rfl, hg2⟩ := hO2.addr (by rw [cod_len, hLl]; omega)
          have hcv := conv_rd w2 g2 0 c2 (T.take 1000 ++ [d]) hO2.rd
          rw [hLl] at hcv
          obtain ⟨LB, hLB⟩ : ∃ LB : ByteArray, (⟨(T.take 1000 ++ [d]).toArray⟩ : ByteArray) = LB := ⟨_, rfl⟩
          have hLBl : LB.data.toList = T.take 1000 ++ [d] := by rw [← hLB]
          rw [hLB] at hcv
          have cR := rread_end LB E w2 (by rw [← ba_len, hLBl, hLl]; omega) (isDec_iff.2 ⟨by rw [← ba_len, hLBl, hLl]; omega, by
            rw [hLBl]
            intro c hc
            rcases List.mem_append.1 hc with h | h
            · exact HKd.out c h
            · rw [List.mem_singleton.1 h, hdr]
              omega⟩)
          rw [hLBl] at cR
          have CR := Lib.hid cR
          have HMM := Lib.hid (fun r0 h => HM.out d (by rw [hdr]; exact HR.out) r0 h)
          clear hown2 hown3 hgrow2 HO1 hcod hr2 hdr cR hLBl hLB hO2
          go_wp2_with fail
          refine CR.out.mono ?_
          rintro e w3 ⟨r0, rfl, hr0, hB3⟩
          have hB4 := hB2.trans (hB3.mono hB2.size)
          have HF := Lib.hid (HMM.out r0 hr0.out)
          clear hr0 hB3
          go_wp2_with fail
          go_ret
          exact ⟨r0, rfl, HF, hB4⟩
end Go.Proofs.YtmceakbjholjpaaGreatDoor

namespace Go.Proofs.YtmceakbjholjpaaGreatDoor
open Go.RowKit Go.Lib

/-- What Sci answers of the float r with p digits behind the first one. -/
noncomputable def sciX (r p : Nat) : List UInt8 × Int :=
  @dite _ (∃ x : Int × Nat, SciOk (amN r) (amD r) p x.1 x.2) (Classical.propDecidable _) (fun h => (decs (Classical.choose h).2, (Classical.choose h).1)) (fun _ => (List.replicate (p + 1) 48, 0))
theorem sciX_of {r p M : Nat} {P : Int} (ok : SciOk (amN r) (amD r) p P M) : sciX r p = (decs M, P) := by
  unfold sciX
  have h : ∃ x : Int × Nat, SciOk (amN r) (amD r) p x.1 x.2 := ⟨(P, M), ok⟩
  rw [dif_pos h]
  obtain ⟨e1, e2⟩ := (Classical.choose_spec h).uniq (amD_pos r) ok
  rw [e1, e2]
theorem amN_zero : amN 0 = 0 := by decide
theorem sciX_zero (p : Nat) : sciX 0 p = (List.replicate (p + 1) 48, 0) := by
  unfold sciX
  refine dif_neg ?_
  rintro ⟨⟨P, M⟩, ok⟩
  have h1 := ok.val
  have h2 := ok.low
  have h3 := Nat.pow_pos (n := p) (show 0 < 10 by omega)
  simp only at h1 h2
  rw [h1, amN_zero] at h2
  unfold sciM rnd at h2
  rw [Nat.zero_mul, Nat.zero_div, Nat.zero_mod] at h2
  rw [if_neg] at h2
  · omega
  · have := Nat.mul_pos (amD_pos 0) (Nat.pow_pos (n := (-((p : Int) - P)).toNat) (show 0 < 10 by omega))
    omega
theorem sci_has (w : World) {r p : Nat} (h0 : 0 < r) (hr : r < 9218868437227405312) (hp : p ≤ 200) : ∃ P M, SciOk (amN r) (amD r) p P M := by
  have hm : mag r = r := mag_no hr
  obtain ⟨e, w', fr, ⟨⟨P, M, ok, _⟩, _⟩, _⟩ := sci_yes r p w (by omega) (by rw [hm]; exact h0) (by rw [hm]; exact hr) hp []
  rw [hm] at ok
  exact ⟨P, M, ok⟩
theorem sciX_facts (w : World) {r p : Nat} (hr : r < 9218868437227405312) (hp : p ≤ 200) : (sciX r p).1.length = p + 1 ∧ Dec (sciX r p).1 ∧ -400 ≤ (sciX r p).2 ∧ (sciX r p).2 ≤ 400 := by
  rcases Nat.eq_zero_or_pos r with rfl | h0
  · rw [sciX_zero]
    exact ⟨List.length_replicate, dec_noughts _, show (-400 : Int) ≤ 0 by decide, show (0 : Int) ≤ 400 by decide⟩
  · obtain ⟨P, M, ok⟩ := sci_has w h0 hr hp
    rw [sciX_of ok]
    exact ⟨decs_len_of ok.low ok.high, dec_decs M, ok.bd.1, ok.bd.2⟩
/-- Digits with a point behind the first. -/
def ptT (d : List UInt8) (q : Bool) : List UInt8 := if q = true then d.take 1 ++ 46 :: d.drop 1 else d
/-- The power of ten. -/
def expT (P : Int) : List UInt8 := (if P < 0 then [101, 45] else [101, 43]) ++ ((if P.natAbs < 10 then [48] else []) ++ decs P.natAbs)
def fixP (r q : Nat) (full : Bool) : List UInt8 := fixT (decs (rnd (amN r * 10 ^ q) (amD r))) q ++ if q = 0 ∧ full = true then [46] else []
/-- Without noughts at the end, and without a point there. -/
def trimG (full : Bool) (d : List UInt8) : List UInt8 := if full = false ∧ d.contains 46 = true then Lib.trimSuffix (Lib.trimRightB d 48) [46] else d
noncomputable def genT (r n : Nat) (full : Bool) : List UInt8 :=
  if (sciX r n).2 < -4 ∨ ((n : Int) + 1 ≤ (sciX r n).2) then trimG full (ptT (sciX r n).1 (decide (0 < n) || full)) ++ expT (sciX r n).2
  else trimG full (fixP r ((n : Int) - (sciX r n).2).toNat full)
theorem padT_dec {d : List UInt8} (h : Dec d) (p : Nat) : Dec (padT d p) := dec_app (dec_noughts _) h
/-- The pieces as one, as wide as is asked for. -/
def laidL (sg base D : List UInt8) (wd : Int) (minus noughts : Bool) : List UInt8 :=
  if noughts = true ∧ minus = false then sg ++ (base ++ (List.replicate (wd - ((sg ++ base ++ D).length : Int)).toNat 48 ++ D))
  else fillL (sg ++ base ++ D) (wd - ((sg ++ base ++ D).length : Int)) minus
end Go.Proofs.YtmceakbjholjpaaGreatDoor

namespace Go.Proofs.YtmceakbjholjpaaGreatDoor
open Go.RowKit Go.Lib

theorem fixT_len (d : List UInt8) (q : Nat) : (fixT d q).length ≤ d.length + q + 2 := by
  unfold fixT padT
  split
  · omega
  · rw [List.length_append, List.length_cons, List.length_take, List.length_drop, List.length_append, List.length_replicate]
    omega
theorem fixP_len {r q : Nat} (h : r < 9218868437227405312) (hq : q ≤ 200) (full : Bool) : (fixP r q full).length ≤ 3000 := by
  have hN := amN_room h
  have h10 : 10 ^ q < B32 ^ 26 := ten_lt _ _ (by omega)
  have hNT : amN r * 10 ^ q < B32 ^ 59 := prod_room hN h10 (by omega)
  have hr : rnd (amN r * 10 ^ q) (amD r) < B32 ^ 60 := by
    have h1 := rnd_le (amN r * 10 ^ q) (amD r)
    have h2 := Nat.div_le_self (amN r * 10 ^ q) (amD r)
    have h3 : B32 ^ 59 * 2 ≤ B32 ^ 60 := by rw [Nat.pow_succ]; exact Nat.mul_le_mul_left _ (by decide)
    omega
  have hl := (decs_room hr (by omega)).2
  have hf := fixT_len (decs (rnd (amN r * 10 ^ q) (amD r))) q
  unfold fixP
  rw [List.length_append]
  have : (if q = 0 ∧ full = true then [46] else ([] : List UInt8)).length ≤ 1 := by split <;> simp
  omega
theorem ptT_len (d : List UInt8) (q : Bool) : (ptT d q).length ≤ d.length + 1 := by
  unfold ptT
  split
  · rw [List.length_append, List.length_cons, List.length_take, List.length_drop]
    omega
  · omega
theorem trimR_len (l : List UInt8) (x : UInt8) : (Lib.trimRightB l x).length ≤ l.length := by
  obtain ⟨k, hk⟩ := trim_split l x
  have := congrArg List.length hk
  rw [List.length_append] at this
  omega

set_option maxRecDepth 100000 in
set_option maxHeartbeats 2000000 in
theorem ffix_any (x q : Nat) (full : Bool) (w : World) (hb : x < 18446744073709551616) (h : mag x < 9218868437227405312) (hq : q ≤ 200) : Calls Tryz.prog 95 #[.float .f64 x, .int .i64 q, .bool full] w fun e w' => e = .returned (.string ⟨(fixP (mag x) q full).toArray⟩) ∧ Below w.heap.size w w' := by
  have cF := fixed_yes x q w hb h hq
  unfold fixP
  obtain ⟨l, hl⟩ : ∃ l, fixT (decs (rnd (amN (mag x) * 10 ^ q) (amD (mag x)))) q = l := ⟨_, rfl⟩
  have hll : l.length ≤ 3000 := by
    have := fixP_len h hq false
    unfold fixP at this
    rw [hl, if_neg (fun h => by cases h.2), List.append_nil] at this
    exact this
  rw [hl] at cF ⊢
  have e1 := ba_cat ⟨l.toArray⟩ [46]
  obtain ⟨S, hS⟩ : ∃ S : ByteArray, (⟨l.toArray⟩ : ByteArray) = S := ⟨_, rfl⟩
  have HS := Lib.hid hS
  rw [hS] at cF e1
  have hSl : S.data.toList = l := by rw [← hS]
  rw [hSl] at e1
  have hSs : S.size ≤ 3000 := by rw [← ba_len, hSl]; exact hll
  have CF := Lib.hid cF
  have E1 := Lib.hid e1
  clear cF e1 hl hS hSl h hll
  obtain ⟨X, hX⟩ : ∃ X, l ++ (if q = 0 ∧ full = true then [46] else []) = X := ⟨_, rfl⟩
  rw [hX]
  have HX := Lib.hid hX
  clear hX
  by_cases h0 : q = 0
  · have hq0 : ((q : Int) == 0) = true := by rw [beq_iff_eq]; omega
    have HQ := Lib.hid h0
    clear h0
    cases full with
    | true =>
      go_enter Tryz.func95, Tryz.ntmps95
      go_wp2_with fail
      refine CF.out.mono ?_
      rintro e w' ⟨rfl, hB⟩
      go_wp2_with fail
      go_ret
      exact ⟨by show Ending.returned (.string (S ++ ⟨#[46]⟩)) = _; rw [E1.out, ← HX.out, if_pos ⟨HQ.out, by first | rfl | trivial⟩], hB⟩
    | false =>
      go_enter Tryz.func95, Tryz.ntmps95
      go_wp2_with fail
      refine CF.out.mono ?_
      rintro e w' ⟨rfl, hB⟩
      go_wp2_with fail
      go_ret
      exact ⟨by show Ending.returned (.string S) = _; rw [← HS.out, ← HX.out, if_neg (by first | (exact fun h => Bool.noConfusion h.2) | (exact fun h => h.2)), List.append_nil], hB⟩
  · have hq0 : ((q : Int) == 0) = false := by rw [beq_eq_false_iff_ne]; omega
    have HQ := Lib.hid h0
    clear h0
    go_enter Tryz.func95, Tryz.ntmps95
    go_wp2_with fail
    refine CF.out.mono ?_
    rintro e w' ⟨rfl, hB⟩
    go_wp2_with fail
    go_ret
    exact ⟨by show Ending.returned (.string S) = _; rw [← HS.out, ← HX.out, if_neg (fun h => HQ.out h.1), List.append_nil], hB⟩
/-- Sci's answer, told by one name. -/
theorem sci_gen (x p : Nat) (w : World) (hb : x < 18446744073709551616) (h : mag x < 9218868437227405312) (hp : p ≤ 200) : Calls Tryz.prog 136 #[.float .f64 x, .int .i64 p] w fun e w' => e = .returned (.tuple #[.string ⟨(sciX (mag x) p).1.toArray⟩, .int .i64 (sciX (mag x) p).2, .int .i64 0]) ∧ Below w.heap.size w w' := by
  rcases Nat.eq_zero_or_pos (mag x) with h0 | h0
  · rw [h0, sciX_zero]
    exact sci_zero x p w hb h0 hp
  · refine (sci_yes x p w hb h0 h hp).mono ?_
    rintro e w' ⟨⟨P, M, ok, rfl⟩, hB⟩
    rw [sciX_of ok]
    exact ⟨rfl, hB⟩
theorem ext_point {S : ByteArray} {l : List UInt8} (h : S.data.toList = l) (_hs : 1 ≤ S.size) : S.extract 0 1 ++ ⟨#[46]⟩ ++ S.extract 1 S.size = ⟨(l.take 1 ++ 46 :: l.drop 1).toArray⟩ := by
  apply ByteArray.ext
  apply Array.toList_inj.1
  rw [ByteArray.data_append, ByteArray.data_append, Array.toList_append, Array.toList_append, ← h]
  have e1 : (S.extract 0 1).data.toList = S.data.toList.take 1 := by
    rw [ByteArray.data_extract, Array.toList_extract]
    simp [List.extract]
  have e2 : (S.extract 1 S.size).data.toList = S.data.toList.drop 1 := by
    rw [ByteArray.data_extract, Array.toList_extract]
    simp only [List.extract]
    rw [List.take_of_length_le]
    rw [List.length_drop, ba_len]
    omega
  rw [e1, e2]
  simp
set_option maxRecDepth 100000 in
set_option maxHeartbeats 4000000 in
theorem fsci_any (x p : Nat) (full : Bool) (w : World) (hb : x < 18446744073709551616) (h : mag x < 9218868437227405312) (hp : p ≤ 200) (hT : PowTab w) : Calls Tryz.prog 96 #[.float .f64 x, .int .i64 p, .bool full] w fun e w' => e = .returned (.tuple #[.string ⟨(ptT (sciX (mag x) p).1 (decide (0 < p) || full)).toArray⟩, .string ⟨(expT (sciX (mag x) p).2).toArray⟩]) ∧ Below w.heap.size w w' := by
  have cS := sci_gen x p w hb h hp
  obtain ⟨hl, hd, b0, b1⟩ := sciX_facts w h hp
  obtain ⟨l, hle⟩ : ∃ l, (sciX (mag x) p).1 = l := ⟨_, rfl⟩
  obtain ⟨P, hPe⟩ : ∃ P, (sciX (mag x) p).2 = P := ⟨_, rfl⟩
  rw [hle, hPe] at cS
  rw [hle] at hl hd
  rw [hPe] at b0 b1
  rw [hle, hPe]
  obtain ⟨S, hS⟩ : ∃ S : ByteArray, (⟨l.toArray⟩ : ByteArray) = S := ⟨_, rfl⟩
  have hSl : S.data.toList = l := by rw [← hS]
  have hSs : S.size = p + 1 := by rw [← ba_len, hSl, hl]
  have hs1 : (1 : Int) ≤ (S.size : Int) := by omega
  rw [hS] at cS
  have e1 := ext_point hSl (by omega)
  rw [hSs] at e1
  obtain ⟨n, hn⟩ : ∃ n, P.natAbs = n := ⟨_, rfl⟩
  have hn4 : n ≤ 400 := by omega
  have cI := fun (W : World) (hW : PowTab W) => Tryz.strconv_Itoa (n : Int) (by omega) (by omega) W hW
  have hit : Lib.itoa (n : Int) = decs n := by
    unfold Lib.itoa
    rw [if_neg (by omega), decD, Int.toNat_natCast]
  rw [hit] at cI
  unfold ptT expT
  rw [hn]
  have HS := Lib.hid hS
  have CS := Lib.hid cS
  have CI := Lib.hid cI
  have E1 := Lib.hid e1
  have HT := Lib.hid (Lib.tabBelow_of_tabIs hT)
  have HSL := Lib.hid hSl
  have HN := Lib.hid hn
  clear cS cI e1 hS hSl hle hPe hl hd hit h hb hT hn
  have hw : wrap64 (n : Int) = (n : Int) := by unfold wrap64; omega
  have fin : ∀ (D M : ByteArray), (D.data.toList = if (decide (0 < p) || full) = true then l.take 1 ++ 46 :: l.drop 1 else l) → M.data.toList = (if P < 0 then [101, 45] else [101, 43]) ++ ((if n < 10 then [48] else []) ++ decs n) →
      Ending.returned (.tuple #[.string D, .string M]) = Ending.returned (.tuple #[.string ⟨(if (decide (0 < p) || full) = true then l.take 1 ++ 46 :: l.drop 1 else l).toArray⟩, .string ⟨((if P < 0 then [101, 45] else [101, 43]) ++ ((if n < 10 then [48] else []) ++ decs n)).toArray⟩]) := fun D M h1 h2 => by
    rw [← h1, ← h2]
  obtain ⟨X, hX⟩ : ∃ X, (if (decide (0 < p) || full) = true then l.take 1 ++ 46 :: l.drop 1 else l) = X := ⟨_, rfl⟩
  obtain ⟨Z, hZ⟩ : ∃ Z, (if P < 0 then [101, 45] else [101, 43]) ++ ((if n < 10 then [48] else []) ++ decs n) = Z := ⟨_, rfl⟩
  rw [hX, hZ] at fin ⊢
  have HX := Lib.hid hX
  have HZ := Lib.hid hZ
  have FIN := Lib.hid fin
  clear fin hX hZ
  obtain ⟨Q, hQ⟩ : ∃ Q : ByteArray, (⟨(decs n).toArray⟩ : ByteArray) = Q := ⟨_, rfl⟩
  have HQ := Lib.hid (show Q.data.toList = decs n by rw [← hQ])
  have hQs : Q.size ≤ 3 := by rw [← ba_len, HQ.out]; exact (decs_le (by omega)).2 (by omega)
  have CI := CI.out
  rw [hQ] at CI
  have CI := Lib.hid CI
  clear hQ
  have hcase : (0 < p ∨ (p = 0 ∧ full = true)) ∨ (p = 0 ∧ full = false) := by
    rcases Nat.eq_zero_or_pos p with h | h
    · cases full
      · exact Or.inr ⟨h, rfl⟩
      · exact Or.inl (Or.inr ⟨h, rfl⟩)
    · exact Or.inl (Or.inl h)
  rcases hcase with (h0 | ⟨h0, rfl⟩) | ⟨h0, rfl⟩
  · have hpp : (0 : Int) < (p : Int) := by omega
    have H0 := Lib.hid h0
    clear h0
    by_cases hP : P < 0
    · obtain rfl : P = -(n : Int) := by have := HN.out; omega
      have HP := Lib.hid hP
      by_cases h10 : n < 10
      · have h10z : (n : Int) < 10 := by omega
        have H10 := Lib.hid h10
        clear h10
        go_enter Tryz.func96, Tryz.ntmps96
        go_wp2_with fail
        refine CS.out.mono ?_
        rintro e w1 ⟨rfl, hB⟩
        go_wp2_with fail
        go_quiet (fail)
        have hB := below_drewN hB nq
        go_wp2_with fail
        refine (CI.out _ (HT.out _ hB)).mono ?_
        obtain ⟨w3, hw3⟩ : ∃ w3, w1.drewN nq = w3 := ⟨_, rfl⟩
        rw [hw3] at hB ⊢
        rintro e w2 ⟨rfl, k, os, hw2⟩
        have hB2 : Below w.heap.size w w2 := hB.trans ((by rw [hw2]; exact Lib.below_grow w3.heap.size w3 (Nat.le_refl _) k os : Below w3.heap.size w3 w2).mono hB.size)
        clear hw2
        go_wp2_with fail
        go_ret2
        exact ⟨FIN.out _ _ (by rw [E1.out, ← HX.out, if_pos (by simp [H0.out])]) (by rw [← HZ.out, if_pos (by have := HP.out; omega), if_pos (by have := H10.out; omega)]; simp only [ByteArray.data_append, Array.toList_append, HQ.out]; rfl), hB2⟩
      · have h10z : ¬ (n : Int) < 10 := by omega
        have H10 := Lib.hid h10
        clear h10
        go_enter Tryz.func96, Tryz.ntmps96
        go_wp2_with fail
        refine CS.out.mono ?_
        rintro e w1 ⟨rfl, hB⟩
        go_wp2_with fail
        go_quiet (fail)
        have hB := below_drewN hB nq
        go_wp2_with fail
        refine (CI.out _ (HT.out _ hB)).mono ?_
        obtain ⟨w3, hw3⟩ : ∃ w3, w1.drewN nq = w3 := ⟨_, rfl⟩
        rw [hw3] at hB ⊢
        rintro e w2 ⟨rfl, k, os, hw2⟩
        have hB2 : Below w.heap.size w w2 := hB.trans ((by rw [hw2]; exact Lib.below_grow w3.heap.size w3 (Nat.le_refl _) k os : Below w3.heap.size w3 w2).mono hB.size)
        clear hw2
        go_wp2_with fail
        go_ret2
        exact ⟨FIN.out _ _ (by rw [E1.out, ← HX.out, if_pos (by simp [H0.out])]) (by rw [← HZ.out, if_pos (by have := HP.out; omega), if_neg (by have := H10.out; omega)]; simp only [ByteArray.data_append, Array.toList_append, HQ.out]; rfl), hB2⟩
    · obtain rfl : P = (n : Int) := by have := HN.out; omega
      have HP := Lib.hid hP
      by_cases h10 : n < 10
      · have h10z : (n : Int) < 10 := by omega
        have H10 := Lib.hid h10
        clear h10
        go_enter Tryz.func96, Tryz.ntmps96
        go_wp2_with fail
        refine CS.out.mono ?_
        rintro e w1 ⟨rfl, hB⟩
        go_wp2_with fail
        go_quiet (fail)
        have hB := below_drewN hB nq
        go_wp2_with fail
        refine (CI.out _ (HT.out _ hB)).mono ?_
        obtain ⟨w3, hw3⟩ : ∃ w3, w1.drewN nq = w3 := ⟨_, rfl⟩
        rw [hw3] at hB ⊢
        rintro e w2 ⟨rfl, k, os, hw2⟩
        have hB2 : Below w.heap.size w w2 := hB.trans ((by rw [hw2]; exact Lib.below_grow w3.heap.size w3 (Nat.le_refl _) k os : Below w3.heap.size w3 w2).mono hB.size)
        clear hw2
        go_wp2_with fail
        go_ret2
        exact ⟨FIN.out _ _ (by rw [E1.out, ← HX.out, if_pos (by simp [H0.out])]) (by rw [← HZ.out, if_neg (show ¬ (n : Int) < 0 by omega), if_pos (by have := H10.out; omega)]; simp only [ByteArray.data_append, Array.toList_append, HQ.out]; rfl), hB2⟩
      · have h10z : ¬ (n : Int) < 10 := by omega
        have H10 := Lib.hid h10
        clear h10
        go_enter Tryz.func96, Tryz.ntmps96
        go_wp2_with fail
        refine CS.out.mono ?_
        rintro e w1 ⟨rfl, hB⟩
        go_wp2_with fail
        go_quiet (fail)
        have hB := below_drewN hB nq
        go_wp2_with fail
        refine (CI.out _ (HT.out _ hB)).mono ?_
        obtain ⟨w3, hw3⟩ : ∃ w3, w1.drewN nq = w3 := ⟨_, rfl⟩
        rw [hw3] at hB ⊢
        rintro e w2 ⟨rfl, k, os, hw2⟩
        have hB2 : Below w.heap.size w w2 := hB.trans ((by rw [hw2]; exact Lib.below_grow w3.heap.size w3 (Nat.le_refl _) k os : Below w3.heap.size w3 w2).mono hB.size)
        clear hw2
        go_wp2_with fail
        go_ret2
        exact ⟨FIN.out _ _ (by rw [E1.out, ← HX.out, if_pos (by simp [H0.out])]) (by rw [← HZ.out, if_neg (show ¬ (n : Int) < 0 by omega), if_neg (by have := H10.out; omega)]; simp only [ByteArray.data_append, Array.toList_append, HQ.out]; rfl), hB2⟩
  · have hpp : ¬ (0 : Int) < (p : Int) := by omega
    have H0 := Lib.hid h0
    clear h0
    have E1b := Lib.hid (show S.extract 0 1 ++ ⟨#[46]⟩ = ⟨(l.take 1 ++ 46 :: l.drop 1).toArray⟩ by have h := E1.out; rw [H0.out] at h; simpa using h)
    by_cases hP : P < 0
    · obtain rfl : P = -(n : Int) := by have := HN.out; omega
      have HP := Lib.hid hP
      by_cases h10 : n < 10
      · have h10z : (n : Int) < 10 := by omega
        have H10 := Lib.hid h10
        clear h10
        go_enter Tryz.func96, Tryz.ntmps96
        go_wp2_with fail
        refine CS.out.mono ?_
        rintro e w1 ⟨rfl, hB⟩
        go_wp2_with fail
        go_quiet (fail)
        have hB := below_drewN hB nq
        go_wp2_with fail
        refine (CI.out _ (HT.out _ hB)).mono ?_
        obtain ⟨w3, hw3⟩ : ∃ w3, w1.drewN nq = w3 := ⟨_, rfl⟩
        rw [hw3] at hB ⊢
        rintro e w2 ⟨rfl, k, os, hw2⟩
        have hB2 : Below w.heap.size w w2 := hB.trans ((by rw [hw2]; exact Lib.below_grow w3.heap.size w3 (Nat.le_refl _) k os : Below w3.heap.size w3 w2).mono hB.size)
        clear hw2
        go_wp2_with fail
        go_ret2
        exact ⟨FIN.out _ _ (by rw [E1b.out, ← HX.out, if_pos (by simp [H0.out])]) (by rw [← HZ.out, if_pos (by have := HP.out; omega), if_pos (by have := H10.out; omega)]; simp only [ByteArray.data_append, Array.toList_append, HQ.out]; rfl), hB2⟩
      · have h10z : ¬ (n : Int) < 10 := by omega
        have H10 := Lib.hid h10
        clear h10
        go_enter Tryz.func96, Tryz.ntmps96
        go_wp2_with fail
        refine CS.out.mono ?_
        rintro e w1 ⟨rfl, hB⟩
        go_wp2_with fail
        go_quiet (fail)
        have hB := below_drewN hB nq
        go_wp2_with fail
        refine (CI.out _ (HT.out _ hB)).mono ?_
        obtain ⟨w3, hw3⟩ : ∃ w3, w1.drewN nq = w3 := ⟨_, rfl⟩
        rw [hw3] at hB ⊢
        rintro e w2 ⟨rfl, k, os, hw2⟩
        have hB2 : Below w.heap.size w w2 := hB.trans ((by rw [hw2]; exact Lib.below_grow w3.heap.size w3 (Nat.le_refl _) k os : Below w3.heap.size w3 w2).mono hB.size)
        clear hw2
        go_wp2_with fail
        go_ret2
        exact ⟨FIN.out _ _ (by rw [E1b.out, ← HX.out, if_pos (by simp [H0.out])]) (by rw [← HZ.out, if_pos (by have := HP.out; omega), if_neg (by have := H10.out; omega)]; simp only [ByteArray.data_append, Array.toList_append, HQ.out]; rfl), hB2⟩
    · obtain rfl : P = (n : Int) := by have := HN.out; omega
      have HP := Lib.hid hP
      by_cases h10 : n < 10
      · have h10z : (n : Int) < 10 := by omega
        have H10 := Lib.hid h10
        clear h10
        go_enter Tryz.func96, Tryz.ntmps96
        go_wp2_with fail
        refine CS.out.mono ?_
        rintro e w1 ⟨rfl, hB⟩
        go_wp2_with fail
        go_quiet (fail)
        have hB := below_drewN hB nq
        go_wp2_with fail
        refine (CI.out _ (HT.out _ hB)).mono ?_
        obtain ⟨w3, hw3⟩ : ∃ w3, w1.drewN nq = w3 := ⟨_, rfl⟩
        rw [hw3] at hB ⊢
        rintro e w2 ⟨rfl, k, os, hw2⟩
        have hB2 : Below w.heap.size w w2 := hB.trans ((by rw [hw2]; exact Lib.below_grow w3.heap.size w3 (Nat.le_refl _) k os : Below w3.heap.size w3 w2).mono hB.size)
        clear hw2
        go_wp2_with fail
        go_ret2
        exact ⟨FIN.out _ _ (by rw [E1b.out, ← HX.out, if_pos (by simp [H0.out])]) (by rw [← HZ.out, if_neg (show ¬ (n : Int) < 0 by omega), if_pos (by have := H10.out; omega)]; simp only [ByteArray.data_append, Array.toList_append, HQ.out]; rfl), hB2⟩
      · have h10z : ¬ (n : Int) < 10 := by omega
        have H10 := Lib.hid h10
        clear h10
        go_enter Tryz.func96, Tryz.ntmps96
        go_wp2_with fail
        refine CS.out.mono ?_
        rintro e w1 ⟨rfl, hB⟩
        go_wp2_with fail
        go_quiet (fail)
        have hB := below_drewN hB nq
        go_wp2_with fail
        refine (CI.out _ (HT.out _ hB)).mono ?_
        obtain ⟨w3, hw3⟩ : ∃ w3, w1.drewN nq = w3 := ⟨_, rfl⟩
        rw [hw3] at hB ⊢
        rintro e w2 ⟨rfl, k, os, hw2⟩
        have hB2 : Below w.heap.size w w2 := hB.trans ((by rw [hw2]; exact Lib.below_grow w3.heap.size w3 (Nat.le_refl _) k os : Below w3.heap.size w3 w2).mono hB.size)
        clear hw2
        go_wp2_with fail
        go_ret2
        exact ⟨FIN.out _ _ (by rw [E1b.out, ← HX.out, if_pos (by simp [H0.out])]) (by rw [← HZ.out, if_neg (show ¬ (n : Int) < 0 by omega), if_neg (by have := H10.out; omega)]; simp only [ByteArray.data_append, Array.toList_append, HQ.out]; rfl), hB2⟩
  · have hpp : ¬ (0 : Int) < (p : Int) := by omega
    have H0 := Lib.hid h0
    clear h0
    by_cases hP : P < 0
    · obtain rfl : P = -(n : Int) := by have := HN.out; omega
      have HP := Lib.hid hP
      by_cases h10 : n < 10
      · have h10z : (n : Int) < 10 := by omega
        have H10 := Lib.hid h10
        clear h10
        go_enter Tryz.func96, Tryz.ntmps96
        go_wp2_with fail
        refine CS.out.mono ?_
        rintro e w1 ⟨rfl, hB⟩
        go_wp2_with fail
        refine (CI.out _ (HT.out _ hB)).mono ?_
        rintro e w2 ⟨rfl, k, os, hw2⟩
        have hB2 : Below w.heap.size w w2 := hB.trans ((by rw [hw2]; exact Lib.below_grow w1.heap.size w1 (Nat.le_refl _) k os : Below w1.heap.size w1 w2).mono hB.size)
        clear hw2
        go_wp2_with fail
        go_ret2
        exact ⟨FIN.out _ _ (by rw [HSL.out, ← HX.out, if_neg (by simp [H0.out])]) (by rw [← HZ.out, if_pos (by have := HP.out; omega), if_pos (by have := H10.out; omega)]; simp only [ByteArray.data_append, Array.toList_append, HQ.out]; rfl), hB2⟩
      · have h10z : ¬ (n : Int) < 10 := by omega
        have H10 := Lib.hid h10
        clear h10
        go_enter Tryz.func96, Tryz.ntmps96
        go_wp2_with fail
        refine CS.out.mono ?_
        rintro e w1 ⟨rfl, hB⟩
        go_wp2_with fail
        refine (CI.out _ (HT.out _ hB)).mono ?_
        rintro e w2 ⟨rfl, k, os, hw2⟩
        have hB2 : Below w.heap.size w w2 := hB.trans ((by rw [hw2]; exact Lib.below_grow w1.heap.size w1 (Nat.le_refl _) k os : Below w1.heap.size w1 w2).mono hB.size)
        clear hw2
        go_wp2_with fail
        go_ret2
        exact ⟨FIN.out _ _ (by rw [HSL.out, ← HX.out, if_neg (by simp [H0.out])]) (by rw [← HZ.out, if_pos (by have := HP.out; omega), if_neg (by have := H10.out; omega)]; simp only [ByteArray.data_append, Array.toList_append, HQ.out]; rfl), hB2⟩
    · obtain rfl : P = (n : Int) := by have := HN.out; omega
      have HP := Lib.hid hP
      by_cases h10 : n < 10
      · have h10z : (n : Int) < 10 := by omega
        have H10 := Lib.hid h10
        clear h10
        go_enter Tryz.func96, Tryz.ntmps96
        go_wp2_with fail
        refine CS.out.mono ?_
        rintro e w1 ⟨rfl, hB⟩
        go_wp2_with fail
        refine (CI.out _ (HT.out _ hB)).mono ?_
        rintro e w2 ⟨rfl, k, os, hw2⟩
        have hB2 : Below w.heap.size w w2 := hB.trans ((by rw [hw2]; exact Lib.below_grow w1.heap.size w1 (Nat.le_refl _) k os : Below w1.heap.size w1 w2).mono hB.size)
        clear hw2
        go_wp2_with fail
        go_ret2
        exact ⟨FIN.out _ _ (by rw [HSL.out, ← HX.out, if_neg (by simp [H0.out])]) (by rw [← HZ.out, if_neg (show ¬ (n : Int) < 0 by omega), if_pos (by have := H10.out; omega)]; simp only [ByteArray.data_append, Array.toList_append, HQ.out]; rfl), hB2⟩
      · have h10z : ¬ (n : Int) < 10 := by omega
        have H10 := Lib.hid h10
        clear h10
        go_enter Tryz.func96, Tryz.ntmps96
        go_wp2_with fail
        refine CS.out.mono ?_
        rintro e w1 ⟨rfl, hB⟩
        go_wp2_with fail
        refine (CI.out _ (HT.out _ hB)).mono ?_
        rintro e w2 ⟨rfl, k, os, hw2⟩
        have hB2 : Below w.heap.size w w2 := hB.trans ((by rw [hw2]; exact Lib.below_grow w1.heap.size w1 (Nat.le_refl _) k os : Below w1.heap.size w1 w2).mono hB.size)
        clear hw2
        go_wp2_with fail
        go_ret2
        exact ⟨FIN.out _ _ (by rw [HSL.out, ← HX.out, if_neg (by simp [H0.out])]) (by rw [← HZ.out, if_neg (show ¬ (n : Int) < 0 by omega), if_neg (by have := H10.out; omega)]; simp only [ByteArray.data_append, Array.toList_append, HQ.out]; rfl), hB2⟩
end Go.Proofs.YtmceakbjholjpaaGreatDoor

namespace Go.Proofs.YtmceakbjholjpaaGreatDoor
open Go.RowKit Go.Lib

theorem trimS_len (l m : List UInt8) : (Lib.trimSuffix l m).length ≤ l.length := by
  unfold Lib.trimSuffix
  split
  · rw [List.length_take]; omega
  · omega
theorem expT_len {P : Int} (h0 : -400 ≤ P) (h1 : P ≤ 400) : (expT P).length ≤ 10 := by
  unfold expT
  have h : (decs P.natAbs).length ≤ 3 := (decs_le (by omega)).2 (by omega)
  rw [List.length_append, List.length_append]
  have h2 : (if P < 0 then [101, 45] else [101, 43] : List UInt8).length = 2 := by split <;> rfl
  have h3 : (if P.natAbs < 10 then [48] else [] : List UInt8).length ≤ 1 := by split <;> simp
  omega
/-- What the walk of general wants to know of the text that it has laid (D) and of the mark behind it (M). -/
def GenEnd (w : World) (full : Bool) (D M : List UInt8) (e : Ending) (w' : World) : Prop := e = .returned (.string ⟨(trimG full D ++ M).toArray⟩) ∧ Below w.heap.size w w'
set_option maxRecDepth 100000 in
set_option maxHeartbeats 4000000 in
theorem gen_sci (x n c : Nat) (full : Bool) (l : List UInt8) (P : Int) (D M : List UInt8) (w : World) (hc : n + 1 = c) (hn : n ≤ 190) (_hT : PowTab w) (hD : D.length ≤ 10000) (hM : M.length ≤ 1000) (hP : (P < -4 ∨ (n : Int) + 1 ≤ P)) (b0 : -400 ≤ P) (b1 : P ≤ 400)
    (CS : Calls Tryz.prog 136 #[.float .f64 x, .int .i64 (n : Int)] w fun e w' => e = .returned (.tuple #[.string ⟨l.toArray⟩, .int .i64 P, .int .i64 0]) ∧ Below w.heap.size w w')
    (CC : ∀ W, PowTab W → Calls Tryz.prog 96 #[.float .f64 x, .int .i64 (n : Int), .bool full] W fun e w' => e = .returned (.tuple #[.string ⟨D.toArray⟩, .string ⟨M.toArray⟩]) ∧ Below W.heap.size W w') :
    Calls Tryz.prog 97 #[.float .f64 x, .int .i64 (c : Int), .bool full] w (GenEnd w full D M) := by
  have hw1 : wrap64 ((c : Int) - 1) = (n : Int) := by unfold wrap64; omega
  have hw0 : (c : Int) - 1 = (n : Int) := by omega
  have hc1 : (n : Int) + 1 = (c : Int) := by omega
  unfold GenEnd trimG
  obtain ⟨SD, hSD⟩ : ∃ SD : ByteArray, (⟨D.toArray⟩ : ByteArray) = SD := ⟨_, rfl⟩
  have hDl : SD.data.toList = D := by rw [← hSD]
  have hDs : SD.size ≤ 10000 := by rw [← ba_len, hDl]; exact hD
  obtain ⟨SM, hSM⟩ : ∃ SM : ByteArray, (⟨M.toArray⟩ : ByteArray) = SM := ⟨_, rfl⟩
  have hMl : SM.data.toList = M := by rw [← hSM]
  rw [hSD, hSM] at CC
  obtain ⟨SL, hSL⟩ : ∃ SL : ByteArray, (⟨l.toArray⟩ : ByteArray) = SL := ⟨_, rfl⟩
  rw [hSL] at CS
  have cI := fun W => Tryz.strings_Contains_one SD 46 W
  rw [hDl, idx_has] at cI
  have cR := fun W => Tryz.strings_TrimRight_one SD 48 (by decide) W (by omega)
  rw [hDl] at cR
  obtain ⟨SR, hSR⟩ : ∃ SR : ByteArray, (⟨(Lib.trimRightB D 48).toArray⟩ : ByteArray) = SR := ⟨_, rfl⟩
  have hRl : SR.data.toList = Lib.trimRightB D 48 := by rw [← hSR]
  have hRs : SR.size ≤ 10000 := by rw [← ba_len, hRl]; exact Nat.le_trans (trimR_len _ _) hD
  rw [hSR] at cR
  have cU := fun W => Tryz.strings_TrimSuffix SR ⟨#[46]⟩ W (by omega)
  rw [hRl] at cU
  replace cU : ∀ W : World, Calls Tryz.prog 139 #[.string SR, .string ⟨#[46]⟩] W fun e w' => e = .returned (.string ⟨(Lib.trimSuffix (Lib.trimRightB D 48) [46]).toArray⟩) ∧ w' = W := cU
  obtain ⟨U, hU⟩ : ∃ U, Lib.trimSuffix (Lib.trimRightB D 48) [46] = U := ⟨_, rfl⟩
  obtain ⟨SU, hSU⟩ : ∃ SU : ByteArray, (⟨U.toArray⟩ : ByteArray) = SU := ⟨_, rfl⟩
  have hUl : SU.data.toList = U := by rw [← hSU]
  rw [hU, hSU] at cU
  rw [hU]
  obtain ⟨v, hv⟩ : ∃ v, D.contains 46 = v := ⟨_, rfl⟩
  rw [hv] at cI ⊢
  have hUs : SU.size ≤ 10000 := by rw [← ba_len, hUl, ← hU]; exact Nat.le_trans (trimS_len _ _) (Nat.le_trans (trimR_len _ _) hD)
  obtain ⟨X, hX⟩ : ∃ X, (if full = false ∧ v = true then U else D) ++ M = X := ⟨_, rfl⟩
  rw [hX]
  have HX := Lib.hid hX
  clear hX
  have hMs : SM.size ≤ 1000 := by rw [← ba_len, hMl]; exact hM
  have e1 : SD ++ SM = ⟨(D ++ M).toArray⟩ := by rw [← hSM, ba_cat, hDl]
  have e2 : SU ++ SM = ⟨(U ++ M).toArray⟩ := by rw [← hSM, ba_cat, hUl]
  have E1 := Lib.hid e1
  have E2 := Lib.hid e2
  have CS := Lib.hid CS
  have CC := Lib.hid CC
  have CI := Lib.hid cI
  have CR := Lib.hid cR
  have CU := Lib.hid cU
  have HT := Lib.hid (Lib.tabBelow_of_tabIs _hT)
  clear cI cR cU e1 e2 hSD hDl hSL hSR hRl hRs hU hSU hUl hv hD _hT
  clear hSM hMl hM
  have hcase : P < -4 ∨ (-4 ≤ P ∧ (c : Int) ≤ P) := by omega
  clear hP
  rcases hcase with hP | ⟨hP0, hP1⟩
  all_goals
    cases full with
    | true =>
      go_enter Tryz.func97, Tryz.ntmps97
      go_wp2_with fail
      refine CS.out.mono ?_
      rintro e w1 ⟨rfl, hB⟩
      go_wp2_with fail
      refine (CC.out _ (HT.out _ hB)).mono ?_
      rintro e w2 ⟨rfl, hB2⟩
      have hB2 := hB.trans (hB2.mono hB.size)
      go_wp2_with fail
      go_ret
      exact ⟨by show Ending.returned (.string (SD ++ SM)) = _; rw [E1.out, ← HX.out, if_neg (by simp)], hB2⟩
    | false =>
      cases v with
      | true =>
        go_enter Tryz.func97, Tryz.ntmps97
        go_wp2_with fail
        refine CS.out.mono ?_
        rintro e w1 ⟨rfl, hB⟩
        go_wp2_with fail
        refine (CC.out _ (HT.out _ hB)).mono ?_
        rintro e w2 ⟨rfl, hB2⟩
        have hB2 := hB.trans (hB2.mono hB.size)
        go_wp2_with fail
        refine (CI.out _).mono ?_
        rintro e w3 ⟨rfl, rfl⟩
        go_wp2_with fail
        refine (CR.out _).mono ?_
        rintro e w4 ⟨rfl, rfl⟩
        go_wp2_with fail
        refine (CU.out _).mono ?_
        rintro e w5 ⟨rfl, rfl⟩
        go_wp2_with fail
        go_ret
        exact ⟨by show Ending.returned (.string (SU ++ SM)) = _; rw [E2.out, ← HX.out, if_pos (by simp)], hB2⟩
      | false =>
        go_enter Tryz.func97, Tryz.ntmps97
        go_wp2_with fail
        refine CS.out.mono ?_
        rintro e w1 ⟨rfl, hB⟩
        go_wp2_with fail
        refine (CC.out _ (HT.out _ hB)).mono ?_
        rintro e w2 ⟨rfl, hB2⟩
        have hB2 := hB.trans (hB2.mono hB.size)
        go_wp2_with fail
        refine (CI.out _).mono ?_
        rintro e w3 ⟨rfl, rfl⟩
        go_wp2_with fail
        go_ret
        exact ⟨by show Ending.returned (.string (SD ++ SM)) = _; rw [E1.out, ← HX.out, if_neg (by simp)], hB2⟩
set_option maxRecDepth 100000 in
set_option maxHeartbeats 4000000 in
theorem gen_fix (x n c : Nat) (full : Bool) (l : List UInt8) (P : Int) (D : List UInt8) (w : World) (hc : n + 1 = c) (hn : n ≤ 190) (_hT : PowTab w) (hD : D.length ≤ 10000) (hP0 : -4 ≤ P) (hP1 : P ≤ (n : Int)) (_b0 : -400 ≤ P) (b1 : P ≤ 400)
    (CS : Calls Tryz.prog 136 #[.float .f64 x, .int .i64 (n : Int)] w fun e w' => e = .returned (.tuple #[.string ⟨l.toArray⟩, .int .i64 P, .int .i64 0]) ∧ Below w.heap.size w w')
    (CC : ∀ W, Calls Tryz.prog 95 #[.float .f64 x, .int .i64 ((n : Int) - P), .bool full] W fun e w' => e = .returned (.string ⟨D.toArray⟩) ∧ Below W.heap.size W w') :
    Calls Tryz.prog 97 #[.float .f64 x, .int .i64 (c : Int), .bool full] w (GenEnd w full D []) := by
  have hw1 : wrap64 ((c : Int) - 1) = (n : Int) := by unfold wrap64; omega
  have hw0 : (c : Int) - 1 = (n : Int) := by omega
  have hc1 : (n : Int) + 1 = (c : Int) := by omega
  unfold GenEnd trimG
  obtain ⟨SD, hSD⟩ : ∃ SD : ByteArray, (⟨D.toArray⟩ : ByteArray) = SD := ⟨_, rfl⟩
  have hDl : SD.data.toList = D := by rw [← hSD]
  have hDs : SD.size ≤ 10000 := by rw [← ba_len, hDl]; exact hD
  rw [hSD] at CC
  obtain ⟨SL, hSL⟩ : ∃ SL : ByteArray, (⟨l.toArray⟩ : ByteArray) = SL := ⟨_, rfl⟩
  rw [hSL] at CS
  have cI := fun W => Tryz.strings_Contains_one SD 46 W
  rw [hDl, idx_has] at cI
  have cR := fun W => Tryz.strings_TrimRight_one SD 48 (by decide) W (by omega)
  rw [hDl] at cR
  obtain ⟨SR, hSR⟩ : ∃ SR : ByteArray, (⟨(Lib.trimRightB D 48).toArray⟩ : ByteArray) = SR := ⟨_, rfl⟩
  have hRl : SR.data.toList = Lib.trimRightB D 48 := by rw [← hSR]
  have hRs : SR.size ≤ 10000 := by rw [← ba_len, hRl]; exact Nat.le_trans (trimR_len _ _) hD
  rw [hSR] at cR
  have cU := fun W => Tryz.strings_TrimSuffix SR ⟨#[46]⟩ W (by omega)
  rw [hRl] at cU
  replace cU : ∀ W : World, Calls Tryz.prog 139 #[.string SR, .string ⟨#[46]⟩] W fun e w' => e = .returned (.string ⟨(Lib.trimSuffix (Lib.trimRightB D 48) [46]).toArray⟩) ∧ w' = W := cU
  obtain ⟨U, hU⟩ : ∃ U, Lib.trimSuffix (Lib.trimRightB D 48) [46] = U := ⟨_, rfl⟩
  obtain ⟨SU, hSU⟩ : ∃ SU : ByteArray, (⟨U.toArray⟩ : ByteArray) = SU := ⟨_, rfl⟩
  have hUl : SU.data.toList = U := by rw [← hSU]
  rw [hU, hSU] at cU
  rw [hU]
  obtain ⟨v, hv⟩ : ∃ v, D.contains 46 = v := ⟨_, rfl⟩
  rw [hv] at cI ⊢
  have hUs : SU.size ≤ 10000 := by rw [← ba_len, hUl, ← hU]; exact Nat.le_trans (trimS_len _ _) (Nat.le_trans (trimR_len _ _) hD)
  obtain ⟨X, hX⟩ : ∃ X, (if full = false ∧ v = true then U else D) ++ [] = X := ⟨_, rfl⟩
  rw [hX]
  have HX := Lib.hid hX
  clear hX
  have e1 : SD ++ ⟨#[]⟩ = ⟨(D ++ []).toArray⟩ := by rw [show (⟨#[]⟩ : ByteArray) = ⟨([] : List UInt8).toArray⟩ from rfl, ba_cat, hDl]
  have e2 : SU ++ ⟨#[]⟩ = ⟨(U ++ []).toArray⟩ := by rw [show (⟨#[]⟩ : ByteArray) = ⟨([] : List UInt8).toArray⟩ from rfl, ba_cat, hUl]
  have E1 := Lib.hid e1
  have E2 := Lib.hid e2
  have CS := Lib.hid CS
  have CC := Lib.hid CC
  have CI := Lib.hid cI
  have CR := Lib.hid cR
  have CU := Lib.hid cU
  have HT := Lib.hid (Lib.tabBelow_of_tabIs _hT)
  clear cI cR cU e1 e2 hSD hDl hSL hSR hRl hRs hU hSU hUl hv hD _hT
  have hq : ¬ P < -4 := by omega
  have hq2 : ¬ (c : Int) ≤ P := by omega
  have hq3 : P < (c : Int) := by omega
  have hw2 : wrap64 ((n : Int) - P) = (n : Int) - P := by unfold wrap64; omega
  cases full with
  | true =>
    go_enter Tryz.func97, Tryz.ntmps97
    go_wp2_with fail
    refine CS.out.mono ?_
    rintro e w1 ⟨rfl, hB⟩
    go_wp2_with fail
    refine (CC.out _).mono ?_
    rintro e w2 ⟨rfl, hB2⟩
    have hB2 := hB.trans (hB2.mono hB.size)
    go_wp2_with fail
    go_ret
    exact ⟨by show Ending.returned (.string (SD ++ ⟨#[]⟩)) = _; rw [E1.out, ← HX.out, if_neg (by simp)], hB2⟩
  | false =>
    cases v with
    | true =>
      go_enter Tryz.func97, Tryz.ntmps97
      go_wp2_with fail
      refine CS.out.mono ?_
      rintro e w1 ⟨rfl, hB⟩
      go_wp2_with fail
      refine (CC.out _).mono ?_
      rintro e w2 ⟨rfl, hB2⟩
      have hB2 := hB.trans (hB2.mono hB.size)
      go_wp2_with fail
      refine (CI.out _).mono ?_
      rintro e w3 ⟨rfl, rfl⟩
      go_wp2_with fail
      refine (CR.out _).mono ?_
      rintro e w4 ⟨rfl, rfl⟩
      go_wp2_with fail
      refine (CU.out _).mono ?_
      rintro e w5 ⟨rfl, rfl⟩
      go_wp2_with fail
      go_ret
      exact ⟨by show Ending.returned (.string (SU ++ ⟨#[]⟩)) = _; rw [E2.out, ← HX.out, if_pos (by simp)], hB2⟩
    | false =>
      go_enter Tryz.func97, Tryz.ntmps97
      go_wp2_with fail
      refine CS.out.mono ?_
      rintro e w1 ⟨rfl, hB⟩
      go_wp2_with fail
      refine (CC.out _).mono ?_
      rintro e w2 ⟨rfl, hB2⟩
      have hB2 := hB.trans (hB2.mono hB.size)
      go_wp2_with fail
      refine (CI.out _).mono ?_
      rintro e w3 ⟨rfl, rfl⟩
      go_wp2_with fail
      go_ret
      exact ⟨by show Ending.returned (.string (SD ++ ⟨#[]⟩)) = _; rw [E1.out, ← HX.out, if_neg (by simp)], hB2⟩
theorem gen_any (x n c : Nat) (full : Bool) (w : World) (hb : x < 18446744073709551616) (h : mag x < 9218868437227405312) (hc : n + 1 = c) (hn : n ≤ 190) (hT : PowTab w) : Calls Tryz.prog 97 #[.float .f64 x, .int .i64 (c : Int), .bool full] w fun e w' => e = .returned (.string ⟨(genT (mag x) n full).toArray⟩) ∧ Below w.heap.size w w' := by
  have cS := sci_gen x n w hb h (by omega)
  obtain ⟨hl, -, b0, b1⟩ := sciX_facts w h (show n ≤ 200 by omega)
  by_cases hP : (sciX (mag x) n).2 < -4 ∨ (n : Int) + 1 ≤ (sciX (mag x) n).2
  · have h1 := gen_sci x n c full _ _ _ (expT (sciX (mag x) n).2) w hc hn hT (Nat.le_trans (ptT_len _ (decide (0 < n) || full)) (by rw [hl]; omega)) (Nat.le_trans (expT_len b0 b1) (by omega)) hP b0 b1 cS (fun W hW => fsci_any x n full W hb h (by omega) hW)
    refine h1.mono ?_
    rintro e w' ⟨rfl, hB⟩
    refine ⟨?_, hB⟩
    unfold genT
    rw [if_pos hP]
  · have hq : (n : Int) - (sciX (mag x) n).2 = ((((n : Int) - (sciX (mag x) n).2).toNat : Nat) : Int) := by omega
    have h1 := gen_fix x n c full _ _ (fixP (mag x) ((n : Int) - (sciX (mag x) n).2).toNat full) w hc hn hT (Nat.le_trans (fixP_len h (by omega) full) (by omega)) (by omega) (by omega) b0 b1 cS (fun W => by rw [hq]; exact ffix_any x _ full W hb h (by omega))
    refine h1.mono ?_
    rintro e w' ⟨rfl, hB⟩
    refine ⟨?_, hB⟩
    unfold genT
    rw [if_neg hP, List.append_nil]
end Go.Proofs.YtmceakbjholjpaaGreatDoor

namespace Go.Proofs.YtmceakbjholjpaaGreatDoor
open Go.RowKit Go.Lib

def sbB (x : Nat) : Bool := decide (9223372036854775808 ≤ x)
set_option maxRecDepth 100000 in
theorem signbit_any (x : Nat) (w : World) (hb : x < 18446744073709551616) : Calls Tryz.prog 94 #[.float .f64 x] w fun e w' => e = .returned (.bool (sbB x)) ∧ w = w' := by
  have h1 := fun W => run_f64bits x W
  have g0 : (0 : Int) ≤ (x : Int) := by omega
  by_cases h : 9223372036854775808 ≤ x
  · have e : sbB x = true := decide_eq_true h
    have hc : IntKind.i64.wrap (x : Int) = (x : Int) - 18446744073709551616 := by
      rw [IntKind.wrap_i64]; omega
    have hl : (x : Int) - 18446744073709551616 < 0 := by omega
    rw [e]
    go_enter Tryz.func94, Tryz.ntmps94
    go_wp2
    go_ret
    exact ⟨rfl, rfl⟩
  · have e : sbB x = false := decide_eq_false h
    have hc : IntKind.i64.wrap (x : Int) = (x : Int) := by
      rw [IntKind.wrap_i64]; omega
    have hl : ¬ (x : Int) < 0 := by omega
    rw [e]
    go_enter Tryz.func94, Tryz.ntmps94
    go_wp2
    go_ret
    exact ⟨rfl, rfl⟩
theorem spec_cells {W : World} {B : Nat} {t : TypeId} {m p b a z : Bool} {wd pr c : Int} (h : Five W B #[.bool m, .bool p, .bool b, .bool a, .bool z, .int .i64 wd, .int .i64 pr, .int .u8 c] t) : W.cell? ⟨B, 0, none⟩ = some (.bool m) ∧ W.cell? ⟨B, 1, none⟩ = some (.bool p) ∧ W.cell? ⟨B, 2, none⟩ = some (.bool b) ∧ W.cell? ⟨B, 3, none⟩ = some (.bool a) ∧ W.cell? ⟨B, 4, none⟩ = some (.bool z) ∧ W.cell? ⟨B, 5, none⟩ = some (.int .i64 wd) ∧ W.cell? ⟨B, 6, none⟩ = some (.int .i64 pr) ∧ W.cell? ⟨B, 7, none⟩ = some (.int .u8 c) :=
  ⟨h.cell 0, h.cell 1, h.cell 2, h.cell 3, h.cell 4, h.cell 5, h.cell 6, h.cell 7⟩
theorem Five.three {W : World} {g : Nat} {a b c : Value} {t : TypeId} (h : Five W g #[a, b, c] t) : W.cell? ⟨g, 0, none⟩ = some a ∧ W.cell? ⟨g, 1, none⟩ = some b ∧ W.cell? ⟨g, 2, none⟩ = some c ∧ W.frozen? ⟨g, 0, none⟩ = false ∧ W.frozen? ⟨g, 1, none⟩ = false ∧ W.frozen? ⟨g, 2, none⟩ = false :=
  ⟨h.cell 0, h.cell 1, h.cell 2, h.fro 0, h.fro 1, h.fro 2⟩
theorem pointed_end {w wc W4 : World} {B g : Nat} (SG D : ByteArray) (hB : Below B w wc) (hBw : B ≤ wc.heap.size) (hg : B + 2 ≤ g) (_F : Five wc g #[.string SG, .string ⟨#[]⟩, .string ⟨#[]⟩] 96) (R : Five wc (B + 1) #[.string ⟨#[]⟩, .string ⟨#[]⟩, .string ⟨#[]⟩] 96) (h4 : Below wc.heap.size wc W4) :
    ((((W4.setCell ⟨g, 2, none⟩ (.string D)).setCell ⟨B + 1, 0, none⟩ (.string SG)).setCell ⟨B + 1, 1, none⟩ (.string ⟨#[]⟩)).setCell ⟨B + 1, 2, none⟩ (.string D)).cell? ⟨B + 1, 0, none⟩ = some (.string SG)
    ∧ ((((W4.setCell ⟨g, 2, none⟩ (.string D)).setCell ⟨B + 1, 0, none⟩ (.string SG)).setCell ⟨B + 1, 1, none⟩ (.string ⟨#[]⟩)).setCell ⟨B + 1, 2, none⟩ (.string D)).cell? ⟨B + 1, 1, none⟩ = some (.string ⟨#[]⟩)
    ∧ ((((W4.setCell ⟨g, 2, none⟩ (.string D)).setCell ⟨B + 1, 0, none⟩ (.string SG)).setCell ⟨B + 1, 1, none⟩ (.string ⟨#[]⟩)).setCell ⟨B + 1, 2, none⟩ (.string D)).cell? ⟨B + 1, 2, none⟩ = some (.string D)
    ∧ Below B w ((((W4.setCell ⟨g, 2, none⟩ (.string D)).setCell ⟨B + 1, 0, none⟩ (.string SG)).setCell ⟨B + 1, 1, none⟩ (.string ⟨#[]⟩)).setCell ⟨B + 1, 2, none⟩ (.string D)) := by
  have hne : B + 1 ≠ g := by omega
  have z : Five ((((W4.setCell ⟨g, 2, none⟩ (.string D)).setCell ⟨B + 1, 0, none⟩ (.string SG)).setCell ⟨B + 1, 1, none⟩ (.string ⟨#[]⟩)).setCell ⟨B + 1, 2, none⟩ (.string D)) (B + 1) #[.string SG, .string ⟨#[]⟩, .string D] 96 :=
    (((((R.below h4).other (j := 2) (u := .string D) hne).set (j := 0) (u := .string SG)).set (j := 1) (u := .string ⟨#[]⟩)).set (j := 2) (u := .string D))
  exact ⟨z.cell 0, z.cell 1, z.cell 2, ((((hB.trans (h4.mono hBw)).setCell (p := ⟨g, 2, none⟩) (show B ≤ g by omega) _).setCell (p := ⟨B + 1, 0, none⟩) (show B ≤ B + 1 by omega) _).setCell (p := ⟨B + 1, 1, none⟩) (show B ≤ B + 1 by omega) _).setCell (p := ⟨B + 1, 2, none⟩) (show B ≤ B + 1 by omega) _⟩
/-- The digits of a number by a verb with a point. -/
noncomputable def ptD (r : Nat) (pr : Int) (a : Bool) (c : Nat) : List UInt8 :=
  if c = 102 ∨ c = 70 then fixP r (if pr < 0 then 6 else pr).toNat a
  else if c = 101 ∨ c = 69 then ptT (sciX r (if pr < 0 then 6 else pr).toNat).1 (decide (0 < (if pr < 0 then 6 else pr).toNat) || a) ++ expT (sciX r (if pr < 0 then 6 else pr).toNat).2
  else genT r ((max 1 (if pr < 0 then 6 else pr)) - 1).toNat a
set_option maxRecDepth 100000 in
set_option maxHeartbeats 4000000 in
theorem pointed_start (m p b a z : Bool) (wd pr : Int) (c : Nat) (x q : Nat) (SG D : ByteArray) (w : World) (hb : x < 18446744073709551616) (hSG : ⟨(signL p b c (sbB x)).toArray⟩ = SG) (hq : (q : Int) = if pr < 0 then 6 else pr)
    (hD : (∃ _ : c = 102 ∨ c = 70, ∀ W, Calls Tryz.prog 95 #[.float .f64 x, .int .i64 (q : Int), .bool a] W fun e w' => e = .returned (.string D) ∧ Below W.heap.size W w')
      ∨ (∃ (_ : c = 101 ∨ c = 69) (D1 D2 : ByteArray), D = D1 ++ D2 ∧ D1.size ≤ 10000 ∧ D2.size ≤ 10000 ∧ ∀ W, PowTab W → Calls Tryz.prog 96 #[.float .f64 x, .int .i64 (q : Int), .bool a] W fun e w' => e = .returned (.tuple #[.string D1, .string D2]) ∧ Below W.heap.size W w')
      ∨ (∃ (_ : ¬ (c = 102 ∨ c = 70) ∧ ¬ (c = 101 ∨ c = 69)) (k : Nat), max (1 : Int) (q : Int) = (k : Int) ∧ ∀ W, PowTab W → Calls Tryz.prog 97 #[.float .f64 x, .int .i64 (k : Int), .bool a] W fun e w' => e = .returned (.string D) ∧ Below W.heap.size W w'))
    (hT : PowTab w) :
    Calls Tryz.prog 59 #[.agg #[.bool m, .bool p, .bool b, .bool a, .bool z, .int .i64 wd, .int .i64 pr, .int .u8 (c : Int)], .float .f64 x] w fun e w' => e = .returned (.agg #[.string SG, .string ⟨#[]⟩, .string D]) ∧ Below w.heap.size w w' := by
  have CS := Lib.hid (fun W => signbit_any x W hb)
  have cG := fun W => sign_any m p b a z wd pr c (sbB x) W
  rw [hSG] at cG
  have CG := Lib.hid cG
  have fP := (Five.new w #[.bool m, .bool p, .bool b, .bool a, .bool z, .int .i64 wd, .int .i64 pr, .int .u8 (c : Int)] 24).alloc (.cells #[.string ⟨#[]⟩, .string ⟨#[]⟩, .string ⟨#[]⟩] 96)
  have fR := Five.new (w.alloc (.cells #[.bool m, .bool p, .bool b, .bool a, .bool z, .int .i64 wd, .int .i64 pr, .int .u8 (c : Int)] 24)) #[.string ⟨#[]⟩, .string ⟨#[]⟩, .string ⟨#[]⟩] 96
  have hB0 := ((Below.refl w.heap.size w).alloc (Nat.le_refl _) (.cells #[.bool m, .bool p, .bool b, .bool a, .bool z, .int .i64 wd, .int .i64 pr, .int .u8 (c : Int)] 24)).alloc (by simp) (.cells #[.string ⟨#[]⟩, .string ⟨#[]⟩, .string ⟨#[]⟩] 96)
  rw [World.size_alloc] at fR
  have hsz : ((w.alloc (.cells #[.bool m, .bool p, .bool b, .bool a, .bool z, .int .i64 wd, .int .i64 pr, .int .u8 (c : Int)] 24)).alloc (.cells #[.string ⟨#[]⟩, .string ⟨#[]⟩, .string ⟨#[]⟩] 96)).heap.size = w.heap.size + 2 := by rw [World.size_alloc, World.size_alloc]
  have HT := Lib.hid (Lib.tabBelow_of_tabIs hT)
  obtain ⟨B, hB⟩ : ∃ B, w.heap.size = B := ⟨_, rfl⟩
  obtain ⟨W2, hW2⟩ : ∃ W2, (w.alloc (.cells #[.bool m, .bool p, .bool b, .bool a, .bool z, .int .i64 wd, .int .i64 pr, .int .u8 (c : Int)] 24)).alloc (.cells #[.string ⟨#[]⟩, .string ⟨#[]⟩, .string ⟨#[]⟩] 96) = W2 := ⟨_, rfl⟩
  rw [hW2] at fP fR hB0 hsz
  rw [hB] at fP fR hB0 hsz HT ⊢
  have FP := Lib.hid fP
  have FR := Lib.hid fR
  have HB0 := Lib.hid hB0
  have HSZ := Lib.hid hsz
  have HW2 := Lib.hid hW2
  have HB := Lib.hid hB
  have hq0 : (if pr < 0 then (6 : Int) else pr) = (q : Int) := hq.symm
  have HQ := Lib.hid hq
  have HDD := Lib.hid hD
  clear fP fR hB0 hsz hW2 hB hT hD hq hSG cG hq0
  go_enter Tryz.func59, Tryz.ntmps59
  go_wp2_with fail
  rw [HW2.out, HB.out]
  go_cut [5] (fun v wx => ∃ g : Nat, v = .pointer (some ⟨g, 0, none⟩) ∧ B + 2 ≤ g ∧ Five wx g #[.string SG, .string ⟨#[]⟩, .string ⟨#[]⟩] 96 ∧ Below W2.heap.size W2 wx)
  case first =>
    have HCW := Lib.hid (fun (W : World) (h : Below W2.heap.size W2 W) => spec_cells (FP.out.below h))
    obtain ⟨p0, p1, p2, p3, p4, p5, p6, p7⟩ := spec_cells FP.out
    have hA := (Below.refl W2.heap.size W2).alloc (Nat.le_refl _) (.cells #[.string ⟨#[]⟩, .string ⟨#[]⟩, .string ⟨#[]⟩] 96)
    have HN := Lib.hid (Five.new W2 #[.string ⟨#[]⟩, .string ⟨#[]⟩, .string ⟨#[]⟩] 96)
    have HA := Lib.hid hA
    clear hA
    have ne1 : ¬ B = W2.heap.size := by have := HSZ.out; omega
    have ne2 : ¬ W2.heap.size = B := by have := HSZ.out; omega
    go_region_held3 (fun w' => w'.cell? ⟨B, 0, none⟩ = some (.bool m) ∧ w'.cell? ⟨B, 1, none⟩ = some (.bool p) ∧ w'.cell? ⟨B, 2, none⟩ = some (.bool b) ∧ w'.cell? ⟨B, 3, none⟩ = some (.bool a) ∧ w'.cell? ⟨B, 4, none⟩ = some (.bool z) ∧ w'.cell? ⟨B, 5, none⟩ = some (.int .i64 wd) ∧ w'.cell? ⟨B, 6, none⟩ = some (.int .i64 pr) ∧ w'.cell? ⟨B, 7, none⟩ = some (.int .u8 (c : Int)))
      (first | (with_reducible exact S1) | go_keep)
      (first
      | (go_at_call 94; (with_reducible refine (CS.out _).mono ?_); rintro e W3 ⟨rfl, rfl⟩)
      | (go_at_call 89; (with_reducible refine (CG.out _).mono ?_); rintro e W3 ⟨rfl, h3⟩
         first
         | (have b3 : Below W2.heap.size W2 W3 := ⟨h3.os, h3.tape, h3.output, h3.size, h3.block⟩
            have S1 := HCW.out _ b3
            have ne3 : ¬ B = W3.heap.size := by have := b3.size; have := HSZ.out; omega
            have ne4 : ¬ W3.heap.size = B := by have := b3.size; have := HSZ.out; omega)
         | (have a3 : Below (W2.alloc (.cells #[.string ⟨#[]⟩, .string ⟨#[]⟩, .string ⟨#[]⟩] 96)).heap.size (W2.alloc (.cells #[.string ⟨#[]⟩, .string ⟨#[]⟩, .string ⟨#[]⟩] 96)) W3 := ⟨h3.os, h3.tape, h3.output, h3.size, h3.block⟩
            have b3 : Below W2.heap.size W2 W3 := HA.out.trans (a3.mono HA.out.size)
            have S1 := HCW.out _ b3
            have N3 := Lib.hid (HN.out.below a3)
            obtain ⟨q0, q1, q2, q3, q4, q5⟩ := N3.out.three)))
    all_goals
      go_wp2_with fail
      go_meet
      first
      | exact ⟨W3.heap.size, rfl, by have := b3.size; have := HSZ.out; omega, Five.new W3 _ _, b3.alloc b3.size _⟩
      | exact ⟨W2.heap.size, rfl, by have := HSZ.out; omega, (((N3.out.set (j := 0) (u := .string SG)).set (j := 1) (u := .string ⟨#[]⟩)).set (j := 2) (u := .string ⟨#[]⟩)), ((b3.setCell (p := ⟨W2.heap.size, 0, none⟩) (Nat.le_refl _) _).setCell (p := ⟨W2.heap.size, 1, none⟩) (Nat.le_refl _) _).setCell (p := ⟨W2.heap.size, 2, none⟩) (Nat.le_refl _) _⟩
  case rest =>
    obtain ⟨g, rfl, hg, F5, hBx⟩ := hcut
    obtain ⟨-, -, -, p3, -, -, p6, p7⟩ := spec_cells (FP.out.below hBx)
    have hBw : B ≤ wc.heap.size := by have := hBx.size; have := HSZ.out; omega
    have HBW := Lib.hid (HB0.out.trans (hBx.mono (show B ≤ W2.heap.size by have := HSZ.out; omega)))
    have HTW := Lib.hid (HT.out wc HBW.out)
    have HF5 := Lib.hid F5
    have HFR := Lib.hid (FR.out.below hBx)
    have FIN := Lib.hid (fun (W4 : World) (D : ByteArray) (h4 : Below wc.heap.size wc W4) => pointed_end (B := B) SG D HBW.out hBw hg HF5.out HFR.out h4)
    have HG := Lib.hid hg
    clear F5 hBx hg hBw
    go_upto_if 17 with (fail)
    go_cut [6] (fun v wx => v = .int .i64 (q : Int) ∧ wx = wc)
    case first =>
      have HQv := HQ.out
      by_cases hpr : pr < 0
      · rw [if_pos hpr] at HQv
        obtain rfl : q = 6 := by omega
        clear HQv
        go_wp2_with fail
        go_meet
        exact ⟨rfl, rfl⟩
      · rw [if_neg hpr] at HQv
        obtain rfl : pr = (q : Int) := HQv.symm
        clear HQv
        go_wp2_with fail
        go_meet
        exact ⟨rfl, rfl⟩
    case rest =>
      obtain ⟨rfl, rfl⟩ := hcut
      rcases HDD.out with ⟨h, C⟩ | ⟨h, D1, D2, rfl, hs1, hs2, C⟩ | ⟨h, k, hk, C⟩
      · have C := Lib.hid C
        clear HDD
        rcases h with rfl | rfl
        all_goals
          go_wp2_with fail
          refine (C.out _).mono ?_
          rintro e W4 ⟨rfl, h4⟩
          clear p3 p6 p7
          obtain ⟨q0, q1, q2, r0, r1, r2⟩ := (HF5.out.below h4).three
          obtain ⟨s0, s1, s2, t0, t1, t2⟩ := (HFR.out.below h4).three
          have ne1 : ¬ B + 1 = g := by have := HG.out; omega
          have ne2 : ¬ g = B + 1 := by have := HG.out; omega
          have H4 := Lib.hid h4
          clear h4
          go_wp2_with fail
          obtain ⟨z0, z1, z2, hBf⟩ := FIN.out _ D H4.out
          clear q0 q1 q2 r0 r1 r2 s0 s1 s2 t0 t1 t2
          refine bodyPost_ret (v := .agg #[.string SG, .string ⟨#[]⟩, .string D]) (by simp [results, Tryz.results59, go_sem, z0, z1, z2]) rfl ⟨rfl, hBf⟩
      · have C := Lib.hid C
        clear HDD
        rcases h with rfl | rfl
        all_goals
          go_wp2_with fail
          refine (C.out _ HTW.out).mono ?_
          rintro e W4 ⟨rfl, h4⟩
          clear p3 p6 p7
          obtain ⟨q0, q1, q2, r0, r1, r2⟩ := (HF5.out.below h4).three
          obtain ⟨s0, s1, s2, t0, t1, t2⟩ := (HFR.out.below h4).three
          have ne1 : ¬ B + 1 = g := by have := HG.out; omega
          have ne2 : ¬ g = B + 1 := by have := HG.out; omega
          have H4 := Lib.hid h4
          clear h4
          go_wp2_with fail
          obtain ⟨z0, z1, z2, hBf⟩ := FIN.out _ (D1 ++ D2) H4.out
          clear q0 q1 q2 r0 r1 r2 s0 s1 s2 t0 t1 t2
          refine bodyPost_ret (v := .agg #[.string SG, .string ⟨#[]⟩, .string (D1 ++ D2)]) (by simp [results, Tryz.results59, go_sem, z0, z1, z2]) rfl ⟨rfl, hBf⟩
      · have C := Lib.hid C
        have v1 : ((c : Int) == 102) = false := by rw [beq_eq_false_iff_ne]; have := h.1; omega
        have v2 : ((c : Int) == 70) = false := by rw [beq_eq_false_iff_ne]; have := h.1; omega
        have v3 : ((c : Int) == 101) = false := by rw [beq_eq_false_iff_ne]; have := h.2; omega
        have v4 : ((c : Int) == 69) = false := by rw [beq_eq_false_iff_ne]; have := h.2; omega
        clear h HDD
        go_wp2_with fail
        refine (C.out _ HTW.out).mono ?_
        rintro e W4 ⟨rfl, h4⟩
        clear p3 p6 p7
        obtain ⟨q0, q1, q2, r0, r1, r2⟩ := (HF5.out.below h4).three
        obtain ⟨s0, s1, s2, t0, t1, t2⟩ := (HFR.out.below h4).three
        have ne1 : ¬ B + 1 = g := by have := HG.out; omega
        have ne2 : ¬ g = B + 1 := by have := HG.out; omega
        have H4 := Lib.hid h4
        clear h4
        go_wp2_with fail
        obtain ⟨z0, z1, z2, hBf⟩ := FIN.out _ D H4.out
        clear q0 q1 q2 r0 r1 r2 s0 s1 s2 t0 t1 t2
        refine bodyPost_ret (v := .agg #[.string SG, .string ⟨#[]⟩, .string D]) (by simp [results, Tryz.results59, go_sem, z0, z1, z2]) rfl ⟨rfl, hBf⟩
theorem sgn_len (p b : Bool) (c : Nat) (s : Bool) : (signL p b c s).length ≤ 1 := by
  unfold signL
  cases s <;> cases vMin.contains c.toUInt8 <;> cases p <;> cases b <;> decide
theorem pointed_any (m p b a z : Bool) (wd pr : Int) (c : Nat) (x : Nat) (w : World) (hb : x < 18446744073709551616) (h : mag x < 9218868437227405312) (h0 : -1 ≤ pr) (h1 : pr ≤ 190) (hT : PowTab w) :
    Calls Tryz.prog 59 #[.agg #[.bool m, .bool p, .bool b, .bool a, .bool z, .int .i64 wd, .int .i64 pr, .int .u8 (c : Int)], .float .f64 x] w fun e w' => e = .returned (.agg #[.string ⟨(signL p b c (sbB x)).toArray⟩, .string ⟨#[]⟩, .string ⟨(ptD (mag x) pr a c).toArray⟩]) ∧ Below w.heap.size w w' := by
  obtain ⟨q, hq⟩ : ∃ q : Nat, (q : Int) = if pr < 0 then 6 else pr := ⟨(if pr < 0 then 6 else pr).toNat, by split <;> omega⟩
  have hq2 : q ≤ 190 := by split at hq <;> omega
  have hqn : (if pr < 0 then (6 : Int) else pr).toNat = q := by rw [← hq, Int.toNat_natCast]
  refine pointed_start m p b a z wd pr c x q _ _ w hb rfl hq ?_ hT
  unfold ptD
  rw [hqn, ← hq]
  by_cases c1 : c = 102 ∨ c = 70
  · refine Or.inl ⟨c1, fun W => ?_⟩
    rw [if_pos c1]
    exact ffix_any x q a W hb h (by omega)
  · rw [if_neg c1]
    by_cases c2 : c = 101 ∨ c = 69
    · obtain ⟨hl, -, b0, b1⟩ := sciX_facts w h (show q ≤ 200 by omega)
      refine Or.inr (Or.inl ⟨c2, ⟨(ptT (sciX (mag x) q).1 (decide (0 < q) || a)).toArray⟩, ⟨(expT (sciX (mag x) q).2).toArray⟩, ?_, ?_, ?_, fun W hW => fsci_any x q a W hb h (by omega) hW⟩)
      · rw [if_pos c2, ba_cat]
      · rw [← ba_len]
        exact Nat.le_trans (ptT_len _ _) (by rw [hl]; omega)
      · rw [← ba_len]
        exact Nat.le_trans (expT_len b0 b1) (by omega)
    · refine Or.inr (Or.inr ⟨⟨c1, c2⟩, max 1 q, by omega, fun W hW => ?_⟩)
      rw [if_neg c2, show (max (1 : Int) (q : Int) - 1).toNat = max 1 q - 1 by omega]
      exact gen_any x (max 1 q - 1) (max 1 q) a W hb h (by omega) (by omega) hW
end Go.Proofs.YtmceakbjholjpaaGreatDoor
