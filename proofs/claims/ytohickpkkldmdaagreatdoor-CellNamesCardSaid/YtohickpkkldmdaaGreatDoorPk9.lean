/- Several texts in one (The definition of layer 2: trim, Small, Add; The definition of layer 2: Times, Cmp; The definition of layer 2: Times; The definition of layer 2: Pow, of two, five and ten; The definition of layer 2: Add, Times; The definition of layer 2: Mul; The definition of layer 3: Parts, above; The definition of layer 2: Text; The definition of layer 2: Parse; The definition of layer 3: Read, by halves). -/
import Derived.Test.YtohickpkkldmdaaGreatDoorPk8
namespace Go.Proofs.YtohickpkkldmdaaGreatDoor
open Go.RowKit Go.Lib

/-- The unit of a piece. -/
abbrev D4 : Nat := 10000
theorem lim4 {l : List Nat} (h : Lim D4 l) (k : Nat) (hk : k < l.length) : ∃ x, l[k] = x ∧ x < 10000 := ⟨_, rfl, lim_get h k hk⟩

set_option maxRecDepth 100000 in
set_option maxHeartbeats 1000000 in
theorem rtrim_any (A : Option Addr) (cap : Nat) (xs : List Nat) (w : World) (hx : Lim D4 xs) (_hxn : xs.length ≤ 10000000000000) (hcap : xs.length ≤ cap) (hcm : cap ≤ maxLen) (hr : Rd .i64 w A xs) :
    Calls Tryz.prog 106 #[.slice A xs.length cap] w fun e w' => (∃ m : Nat, m ≤ xs.length ∧ dig D4 (vl D4 xs) = xs.take m ∧ e = .returned (.slice A m cap)) ∧ w = w' := by
  unfold maxLen at hcm
  go_enter Tryz.func106, Tryz.ntmps106
  go_wp2
  go_loop [0] (fun v => ∃ k : Nat, k ≤ xs.length ∧ v = .slice A k cap ∧ ∀ j (_ : k ≤ j) (hj : j < xs.length), xs[j] = 0) (fun v => lenOf v)
  case atStart => exact ⟨xs.length, Nat.le_refl _, rfl, fun j _ _ => by omega⟩
  case round =>
    obtain ⟨k, hk, rfl, h0⟩ := hrel
    have H0 := Lib.hid h0; clear h0
    by_cases hz : k = 0
    · subst hz
      go_wp2
      go_ret
      exact ⟨⟨0, Nat.zero_le _, (trim_take (by decide) hx (Nat.zero_le _) H0.out (.inl rfl)).1, rfl⟩, rfl⟩
    · obtain ⟨g, o, rfl, hc⟩ := hr (k - 1) (by omega)
      obtain ⟨x, hxe, hxk⟩ := lim4 hx (k - 1) (by omega)
      rw [hxe] at hc
      have HX := Lib.hid hxe; clear hxe
      have hkn : ((k : Int) - 1).toNat = k - 1 := by omega
      by_cases hx0 : x = 0
      · subst hx0
        go_wp2
        go_round
        case rel => exact ⟨k - 1, by omega, rfl, fun j h1 h2 => by
          by_cases e : j = k - 1
          · subst e; exact HX.out
          · exact H0.out j (by omega) h2⟩
        case measure => simp [lenOf]; omega
      · have hxi : ((x : Int) == 0) = false := by rw [beq_eq_false_iff_ne]; omega
        go_wp2
        go_ret
        exact ⟨⟨k, hk, (trim_take (by decide) hx hk H0.out (.inr ⟨by omega, by rw [HX.out]; exact hx0⟩)).1, rfl⟩, rfl⟩
theorem rtrim_own (v : Value) (B : Nat) (xs : List Nat) (w : World) (hx : Lim D4 xs) (hxn : xs.length ≤ 10000000000000) (hO : Own .i64 w B 3 v xs) :
    Calls Tryz.prog 106 #[v] w fun e w' => (∃ v', e = .returned v' ∧ Own .i64 w B 3 v' (dig D4 (vl D4 xs))) ∧ w = w' := by
  obtain ⟨A, cap, rfl, h1, h2⟩ := hO.slice
  refine (rtrim_any A cap xs w hx hxn h1 h2 hO.rd).mono ?_
  rintro e w' ⟨⟨m, hm, hd, rfl⟩, rfl⟩
  exact ⟨⟨_, rfl, by rw [hd]; exact hO.take m hm⟩, rfl⟩

theorem small_step {ds : List Nat} {m n : Nat} (h : vl D4 ds + D4 ^ ds.length * m = n) : vl D4 (ds ++ [m % 10000]) + D4 ^ (ds ++ [m % 10000]).length * (m / 10000) = n := by
  rw [vl_snoc, List.length_append, List.length_singleton, Nat.pow_succ, ← h]
  have hd : D4 ^ ds.length * m = D4 ^ ds.length * (m % 10000) + D4 ^ ds.length * D4 * (m / 10000) := digit_step (B := 10000) (P := D4 ^ ds.length) (z := m)
  omega
set_option maxRecDepth 100000 in
set_option maxHeartbeats 2000000 in
theorem small_any (n : Nat) (w : World) (hn : n ≤ 9223372036854775807) : Calls Tryz.prog 61 #[.int .i64 n] w (Makes .i64 3 w (dig D4 n)) := by
  obtain ⟨i0, hi, hz0, hz1, hz2⟩ := info_parts info_i64
  go_enter Tryz.func61, Tryz.ntmps61
  go_wp2
  go_loopw [0, 3] (fun q v wr => ∃ (m : Nat) (ds : List Nat), q = .int .i64 m ∧ (ds.length ≤ 16 ∧ m ≤ n ∧ m < 10000 ^ (16 - ds.length)) ∧ Own .i64 wr w.heap.size 3 v ds ∧ Lim D4 ds ∧ vl D4 ds + D4 ^ ds.length * m = n ∧ (0 < m ∨ Top ds) ∧ Below w.heap.size w wr) (fun q _ _ => (RowKit.intOf q).toNat)
  case atStart => exact ⟨n, [], rfl, ⟨Nat.zero_le _, Nat.le_refl _, Nat.lt_of_le_of_lt hn (by decide)⟩, Own.nil _ _ _, lim_nil _, by simp [vl], .inr top_nil, Below.refl _ _⟩
  case round =>
    obtain ⟨m, ds, rfl, ⟨hd16, hmn, hmp⟩, hO, hL, hv, ht, hB⟩ := hrel
    obtain ⟨A, cap, rfl, hcap⟩ := hO.slice
    by_cases hm : m = 0
    · subst hm
      have HE := Lib.hid (show dig D4 n = ds from dig_eq (by decide) ⟨hL, by rcases ht with h | h; omega; exact h⟩ (by rw [← hv]; simp))
      have HO := Lib.hid hO
      clear hv hO hL ht
      go_wp2
      go_ret
      exact ⟨_, rfl, by rw [HE.out]; exact HO.out, hB⟩
    · have hown := hO.row (n := ds.length) rfl
      have HS := Lib.hid (small_step hv)
      have hlim : Lim D4 (ds ++ [m % 10000]) := lim_append.2 ⟨hL, lim_one.2 (Nat.mod_lt _ (by decide))⟩
      have htop : 0 < m / 10000 ∨ Top (ds ++ [m % 10000]) := by
        rcases Nat.eq_zero_or_pos (m / 10000) with h | h
        · exact .inr (top_snoc.2 (by omega))
        · exact .inl h
      have hsz := hB.size
      have hd15 : ds.length < 16 := by
        rcases Nat.lt_or_ge ds.length 16 with h | h
        · exact h
        · rw [show 16 - ds.length = 0 by omega, Nat.pow_zero] at hmp
          omega
      have hm1 : ds.length + 1 ≤ 16 ∧ m / 10000 ≤ n ∧ m / 10000 < 10000 ^ (16 - (ds.length + 1)) := by
        refine ⟨by omega, by omega, Nat.div_lt_of_lt_mul ?_⟩
        rw [← Nat.pow_succ', show (16 - (ds.length + 1)).succ = 16 - ds.length by omega]
        exact hmp
      clear hmp
      clear hv hO hL ht
      go_wp2_with (at_builtin; refine wpList_append_own _ rfl _ _ 85 rfl w.heap.size 3 i0 (.int .i64 0) 1 8 Tryz.underlying85 hi hz0 hz1 hz2 rfl (by decide) _ _ _ rfl (hown.alloc _) ⟨wr.heap.size, 0, none⟩ 1 1 [.int .i64 ((m % 10000 : Nat) : Int)] rfl rfl (cell_one_new _ _ _) ?c2 ?c3 ?c4 ?c5 ?_)
      case c2 => simp [Value.oneCell']
      case c3 => unfold maxLen; omega
      case c4 => omega
      case c5 => first | omega | (simp; omega)
      intro v' w4 hown' hgrow _
      have hB4 : Below w.heap.size w w4 := (hB.alloc hsz _).grown hgrow (by simp; omega) (fun z e => (hown.lt z e).1)
      have HO1 := Lib.hid (Own.snoc hown' rfl)
      clear hown hown' hgrow
      go_wp2
      go_roundw
      case rel => exact ⟨m / 10000, ds ++ [m % 10000], vint (by omega), by rw [List.length_append]; exact hm1, HO1.out, hlim, HS.out, htop, hB4⟩
      case measure => simp [RowKit.intOf]; omega
end Go.Proofs.YtohickpkkldmdaaGreatDoor

namespace Go.Proofs.YtohickpkkldmdaaGreatDoor
open Go.RowKit Go.Lib

/-- The product's pieces so far. -/
structure RTim (xs ds : List Nat) (n k c : Nat) : Prop where
  len : ds.length = k
  lim : Lim D4 ds
  hc : c < n
  eq : vl D4 ds + D4 ^ k * c = vl D4 (xs.take k) * n
  top : k ≤ xs.length ∨ k + c ≤ xs.length + n
theorem rtim_step {xs ds : List Nat} {n k c : Nat} (h : RTim xs ds n k c) (hx : Lim D4 xs) (hgo : k < xs.length ∨ 0 < c) (z : Nat) (hz : z = c + xs.getD k 0 * n) : RTim xs (ds ++ [z % 10000]) n (k + 1) (z / 10000) := by
  have b1 := getD_lt hx (by decide) k
  have h3 := h.hc
  refine ⟨by rw [List.length_append, h.len]; rfl, lim_append.2 ⟨h.lim, lim_one.2 (Nat.mod_lt _ (by decide))⟩, ?_, ?_, ?_⟩
  · apply Nat.div_lt_of_lt_mul
    have : (xs.getD k 0 + 1) * n ≤ 10000 * n := Nat.mul_le_mul_right _ b1
    rw [Nat.add_mul] at this
    omega
  · have e1 := h.eq
    have hd : D4 ^ k * z = D4 ^ k * (z % 10000) + D4 ^ k * D4 * (z / 10000) := digit_step (B := 10000) (P := D4 ^ k) (z := z)
    have e2 := congrArg (D4 ^ k * ·) hz
    simp only [Nat.mul_add, ← Nat.mul_assoc] at e2
    rw [vl_snoc, h.len, vl_take_get, Nat.pow_succ, Nat.add_mul]
    omega
  · by_cases a : k < xs.length
    · exact .inl a
    · rw [getD_no a, Nat.zero_mul, Nat.add_zero] at hz
      have := h.top
      exact .inr (by omega)
theorem rtim_end {xs ds : List Nat} {n k : Nat} (h : RTim xs ds n k 0) (hx : xs.length ≤ k) : vl D4 ds = vl D4 xs * n := by
  have := h.eq
  rwa [vl_take_all hx, Nat.mul_zero, Nat.add_zero] at this

set_option maxRecDepth 100000 in
set_option maxHeartbeats 4000000 in
theorem rcmp_any (A A' : Option Addr) (ca cb : Nat) (xs ys : List Nat) (w : World) (hx : Norm D4 xs) (hy : Norm D4 ys) (hxn : xs.length ≤ 1000000) (_hyn : ys.length ≤ 1000000) (hra : Rd .i64 w A xs) (hrb : Rd .i64 w A' ys) :
    Calls Tryz.prog 108 #[.slice A xs.length ca, .slice A' ys.length cb] w fun e w' => e = .returned (.int .i64 (cmpZ (vl D4 xs) (vl D4 ys))) ∧ ∃ n, w' = w.drewN n := by
  by_cases hne : xs.length = ys.length
  · have hnb : ((xs.length : Int) != (ys.length : Int)) = false := by simp [hne]
    have HN := Lib.hid hne; clear hne
    go_enter Tryz.func108, Tryz.ntmps108
    go_wp2
    go_loopw [5] (fun i wr => ∃ k n : Nat, k ≤ xs.length ∧ i = .int .i64 ((k : Int) - 1) ∧ xs.drop k = ys.drop k ∧ wr = w.drewN n) (fun i _ => (RowKit.intOf i + 1).toNat)
    case atStart => exact ⟨xs.length, 0, Nat.le_refl _, rfl, by rw [List.drop_length, HN.out, List.drop_length], rfl⟩
    case round =>
      obtain ⟨k, n, hk, rfl, hd, rfl⟩ := hrel
      have HD := Lib.hid hd; clear hd
      rcases k with _ | k
      · have he : cmpZ (vl D4 xs) (vl D4 ys) = 0 := by
          have := HD.out
          simp at this
          rw [this]; exact cmpZ_eq rfl
        have HE := Lib.hid he; clear he
        go_wp2
        go_ret
        exact ⟨by rw [HE.out]; rfl, n, rfl⟩
      · have hlx : k < xs.length := hk
        have hly : k < ys.length := by have := HN.out; omega
        obtain ⟨g, o, rfl, hc⟩ := hra k hlx
        obtain ⟨g', o', rfl, hc'⟩ := hrb k hly
        obtain ⟨x, hxe, hxk⟩ := lim4 hx.1 k hlx
        obtain ⟨y, hye, hyk⟩ := lim4 hy.1 k hly
        rw [hxe] at hc
        rw [hye] at hc'
        rcases Nat.lt_trichotomy x y with h | h | h
        · have HE := Lib.hid (show cmpZ (vl D4 xs) (vl D4 ys) = -1 from cmpZ_lt (vl_cmp_at hx.1 HN.out hlx HD.out (by rw [hxe, hye]; exact h)))
          clear hxe hye
          rw [show ((k + 1 : Nat) : Int) - 1 = (k : Int) by omega]
          go_wp2
          go_quiet (fail)
          go_wp2
          go_ret
          exact ⟨by rw [HE.out]; rfl, _, by rw [World.drewN_drewN]⟩
        · have hd2 : xs.drop k = ys.drop k := by rw [drop_get xs k hlx, drop_get ys k hly, HD.out, hxe, hye, h]
          have HD2 := Lib.hid hd2
          subst h
          clear hd2 hxe hye
          rw [show ((k + 1 : Nat) : Int) - 1 = (k : Int) by omega]
          go_wp2
          go_quiet (fail)
          go_wp2
          go_quiet (fail)
          go_wp2
          go_roundw
          case rel => exact ⟨k, _, by omega, rfl, HD2.out, rfl⟩
          case measure => simp [RowKit.intOf]
        · have HE := Lib.hid (show cmpZ (vl D4 xs) (vl D4 ys) = 1 from cmpZ_gt (vl_cmp_at hy.1 HN.out.symm hly HD.out.symm (by rw [hxe, hye]; exact h)))
          have h2 : ¬ x < y := by omega
          clear hxe hye
          rw [show ((k + 1 : Nat) : Int) - 1 = (k : Int) by omega]
          go_wp2
          go_quiet (fail)
          go_wp2
          go_quiet (fail)
          go_wp2
          go_ret
          exact ⟨by rw [HE.out]; rfl, _, by rw [World.drewN_drewN, World.drewN_drewN]⟩
  · have hnb : ((xs.length : Int) != (ys.length : Int)) = true := by simp; omega
    rcases Nat.lt_or_gt_of_ne hne with h | h
    · have HE := Lib.hid (show cmpZ (vl D4 xs) (vl D4 ys) = -1 from cmpZ_lt (norm_len_lt (by decide) hx.1 hy.2 h))
      clear hne
      go_enter Tryz.func108, Tryz.ntmps108
      go_wp2
      go_ret
      exact ⟨by rw [HE.out]; rfl, 0, rfl⟩
    · have HE := Lib.hid (show cmpZ (vl D4 xs) (vl D4 ys) = 1 from cmpZ_gt (norm_len_lt (by decide) hy.1 hx.2 h))
      have h2 : ¬ xs.length < ys.length := by omega
      clear hne
      go_enter Tryz.func108, Tryz.ntmps108
      go_wp2
      go_ret
      exact ⟨by rw [HE.out]; rfl, 0, rfl⟩
end Go.Proofs.YtohickpkkldmdaaGreatDoor

namespace Go.Proofs.YtohickpkkldmdaaGreatDoor
open Go.RowKit Go.Lib

theorem piece_prod {x n c : Nat} (hx : x < 10000) (hn : n ≤ 1099511627776) (hc : c < n) : ∃ p : Nat, x * n = p ∧ (x : Int) * (n : Int) = (p : Int) ∧ (p : Int) + (c : Int) ≤ 9223372036854775807 ∧ p ≤ 10995116277760000 := by
  have h : x * n ≤ 9999 * 1099511627776 := Nat.mul_le_mul (by omega) hn
  exact ⟨x * n, rfl, (Int.natCast_mul _ _).symm, by omega, by omega⟩

set_option maxRecDepth 100000 in
set_option maxHeartbeats 4000000 in
theorem rtim_any (A : Option Addr) (ca n : Nat) (xs : List Nat) (w : World) (hx : Lim D4 xs) (hxn : xs.length ≤ 1000000) (hn0 : 0 < n) (hn : n ≤ 1099511627776) (hra : Rd .i64 w A xs) :
    Calls Tryz.prog 107 #[.slice A xs.length ca, .int .i64 n] w (Makes .i64 3 w (dig D4 (vl D4 xs * n))) := by
  obtain ⟨i0, hi, hz0, hz1, hz2⟩ := info_parts info_i64
  go_enter Tryz.func107, Tryz.ntmps107
  go_wp2
  go_loopw [5, 6, 7] (fun v c i wr => ∃ (k z : Nat) (ds : List Nat), i = .int .i64 k ∧ c = .int .i64 z ∧ Own .i64 wr w.heap.size 3 v ds ∧ RTim xs ds n k z ∧ Below w.heap.size w wr) (fun _ c i _ => (xs.length - (RowKit.intOf i).toNat) * 2199023255552 + (RowKit.intOf c).toNat)
  case atStart => exact ⟨0, 0, [], rfl, rfl, Own.nil _ _ _, ⟨rfl, lim_nil _, hn0, by simp [vl], .inl (Nat.zero_le _)⟩, Below.refl _ _⟩
  case round =>
    obtain ⟨k, z, ds, rfl, rfl, hO, hR, hB⟩ := hrel
    obtain ⟨A5, c5, rfl, _⟩ := hO.slice
    have hzn : z < n := hR.hc
    have htop := hR.top
    by_cases hgo : k < xs.length ∨ 0 < z
    · have hdl := hR.len
      have hown := hO.row hdl
      have HDL := Lib.hid hdl
      have hsz := hB.size
      rw [hdl] at hown
      rw [hdl]
      by_cases hlx : k < xs.length
      · obtain ⟨g, o, rfl, hc⟩ := (hra.below hB) k hlx
        obtain ⟨x, hxe, hxk⟩ := lim4 hx k hlx
        rw [hxe] at hc
        obtain ⟨p, hp, hpi, hpb, hpb2⟩ := piece_prod hxk hn hzn
        have HS := Lib.hid (rtim_step hR hx hgo (z + p) (by rw [getD_of hlx, hxe, hp]))
        have hz2b : (z + p) / 10000 < 1099511627776 := by have := HS.out.hc; omega
        clear hR hdl hO hxe hp hgo htop
        go_wp2_with (at_builtin; refine wpList_append_own _ rfl _ _ 85 rfl w.heap.size 3 i0 (.int .i64 0) 1 8 Tryz.underlying85 hi hz0 hz1 hz2 rfl (by decide) _ _ _ rfl (hown.alloc _) ⟨wr.heap.size, 0, none⟩ 1 1 [.int .i64 (((z + p) % 10000 : Nat) : Int)] rfl rfl (cell_one_new _ _ _) ?c2 ?c3 ?c4 ?c5 ?_)
        case c2 => simp [Value.oneCell']
        case c3 => unfold maxLen; omega
        case c4 => omega
        case c5 => first | omega | (simp; omega)
        intro v' w4 hown' hgrow _
        have hB4 : Below w.heap.size w w4 := (hB.alloc hsz _).grown hgrow (by simp; omega) (fun z e => (hown.lt z e).1)
        have HO1 := Lib.hid (Own.snoc hown' HDL.out.symm)
        clear hown hown' hgrow hpi
        go_wp2
        go_roundw
        case rel => exact ⟨k + 1, (z + p) / 10000, ds ++ [(z + p) % 10000], by go_num, vint (by omega), HO1.out, HS.out, hB4⟩
        case measure => simp [RowKit.intOf]; omega
      · have hz0' : 0 < z := by omega
        have HS := Lib.hid (rtim_step hR hx hgo z (by rw [getD_no hlx, Nat.zero_mul, Nat.add_zero]))
        clear hR hdl hO hgo
        go_wp2_with (at_builtin; refine wpList_append_own _ rfl _ _ 85 rfl w.heap.size 3 i0 (.int .i64 0) 1 8 Tryz.underlying85 hi hz0 hz1 hz2 rfl (by decide) _ _ _ rfl (hown.alloc _) ⟨wr.heap.size, 0, none⟩ 1 1 [.int .i64 ((z % 10000 : Nat) : Int)] rfl rfl (cell_one_new _ _ _) ?c2 ?c3 ?c4 ?c5 ?_)
        case c2 => simp [Value.oneCell']
        case c3 => unfold maxLen; omega
        case c4 => omega
        case c5 => first | omega | (simp; omega)
        intro v' w4 hown' hgrow _
        have hB4 : Below w.heap.size w w4 := (hB.alloc hsz _).grown hgrow (by simp; omega) (fun z e => (hown.lt z e).1)
        have HO1 := Lib.hid (Own.snoc hown' HDL.out.symm)
        clear hown hown' hgrow
        go_wp2
        go_roundw
        case rel => exact ⟨k + 1, z / 10000, ds ++ [z % 10000], by go_num, vint (by omega), HO1.out, HS.out, hB4⟩
        case measure => simp [RowKit.intOf]; omega
    · have hlx : ¬ k < xs.length := by omega
      obtain rfl : z = 0 := by omega
      have he := rtim_end hR (by omega)
      have hl := hR.len
      have cT := rtrim_own _ _ ds wr hR.lim (by omega) hO
      rw [he] at cT
      have CT := Lib.hid cT
      rw [hl]
      rw [hl] at CT
      clear cT hO hR he hl hgo
      go_wp2_with fail
      refine CT.out.mono ?_
      rintro e w' ⟨⟨v', rfl, hO7⟩, rfl⟩
      have HO7 := Lib.hid hO7
      clear hO7 CT
      go_wp2
      go_ret
      exact ⟨_, rfl, HO7.out, hB⟩
end Go.Proofs.YtohickpkkldmdaaGreatDoor

namespace Go.Proofs.YtohickpkkldmdaaGreatDoor
open Go.RowKit Go.Lib

theorem dig4_powb {b j : Nat} (hb : b ≤ 10000) (_h1 : 1 ≤ b) : (dig D4 (b ^ j)).length ≤ j + 1 := by
  rw [dig_len_le (by decide)]
  have h1 : b ^ j ≤ D4 ^ j := Nat.pow_le_pow_left hb _
  have h2 : D4 ^ j < D4 ^ (j + 1) := Nat.pow_lt_pow_right (by decide) (by omega)
  omega
theorem own_oneb (w : World) (a : Nat) (t : TypeId) : Own .i64 (w.alloc (.cells #[.int .i64 (a : Nat)] t)) w.heap.size t (.slice (some ⟨w.heap.size, 0, none⟩) 1 1) [a] :=
  World.ownsRow_lit (e := t) (size := 1) w #[.int .i64 (a : Nat)] 1 (Nat.le_refl _) (by decide) rfl
theorem dig4_oneb (b : Nat) : dig D4 (b ^ 0) = [1] := by
  rw [Nat.pow_zero]
  exact dig_eq (by decide) ⟨fun x hx => by rw [List.mem_singleton] at hx; subst hx; decide, by simp [Top]⟩ (by simp [vl])
theorem lim4p (n : Nat) : Lim D4 (dig D4 n) := (dig_norm (by decide) n).1
set_option maxRecDepth 100000 in
set_option maxHeartbeats 4000000 in
theorem rpow_b2 (k : Nat) (w : World) (hk : k ≤ 10000) :
    Calls Tryz.prog 62 #[.int .i64 2, .int .i64 k] w (Makes .i64 3 w (dig D4 (2 ^ k))) := by
  have hO0 := own_oneb w 1 3
  rw [← dig4_oneb 2] at hO0
  have HO0 := Lib.hid hO0
  have hB0 := (Below.refl w.heap.size w).alloc (Nat.le_refl _) (.cells #[.int .i64 (1 : Nat)] 3)
  clear hO0
  go_enter Tryz.func62, Tryz.ntmps62
  go_wp2
  go_loopw [5, 1] (fun v q wr => ∃ j m : Nat, j + m = k ∧ q = .int .i64 m ∧ Own .i64 wr w.heap.size 3 v (dig D4 (2 ^ j)) ∧ Below w.heap.size w wr) (fun _ q _ => (RowKit.intOf q).toNat)
  case atStart => exact ⟨0, k, by omega, rfl, HO0.out, hB0⟩
  case round =>
    clear HO0 hB0
    obtain ⟨j, m, hjm, rfl, hO, hB⟩ := hrel
    obtain ⟨A5, c5, rfl, _⟩ := hO.slice
    by_cases h8 : 8 ≤ m
    · have cT := rtim_any A5 c5 256 (dig D4 (2 ^ j)) wr (lim4p _) (by have := dig4_powb (b := 2) (j := j) (by omega) (by omega); omega) (by omega) (by omega) hO.rd
      have hp : 2 ^ j * 256 = 2 ^ (j + 8) := by rw [Nat.pow_add]
      rw [dig_vl (by decide), hp, show ((256 : Nat) : Int) = 256 from rfl] at cT
      have CT := Lib.hid cT
      clear cT hp hO
      go_wp2_with fail
      refine CT.out.mono ?_
      rintro e w1 ⟨v, rfl, hO1, hB1⟩
      have HO1 := Lib.hid (hO1.mono hB.size)
      have hB2 := hB.trans (hB1.mono hB.size)
      clear hO1 hB1 CT
      go_wp2
      go_roundw
      case rel => exact ⟨j + 8, m - 8, by omega, vint (by omega), HO1.out, hB2⟩
      case measure => simp [RowKit.intOf]; omega
    · go_wp2
      obtain ⟨wo, rfl⟩ : ∃ wo : World, wo = wr := ⟨wr, rfl⟩
      go_loopw [5, 1] (fun v q wi => ∃ j m : Nat, j + m = k ∧ q = .int .i64 m ∧ Own .i64 wi w.heap.size 3 v (dig D4 (2 ^ j)) ∧ Below w.heap.size w wi) (fun _ q _ => (RowKit.intOf q).toNat)
      case atStart => exact ⟨j, m, hjm, rfl, hO, hB⟩
      case round =>
        clear hO hB hjm h8
        obtain ⟨j, m, hjm, rfl, hO, hB⟩ := hrel
        obtain ⟨A5, c5, rfl, _⟩ := hO.slice
        by_cases h1 : 0 < m
        · have cT := rtim_any A5 c5 2 (dig D4 (2 ^ j)) wr (lim4p _) (by have := dig4_powb (b := 2) (j := j) (by omega) (by omega); omega) (by omega) (by omega) hO.rd
          have hp : 2 ^ j * 2 = 2 ^ (j + 1) := by rw [Nat.pow_succ]
          rw [dig_vl (by decide), hp, show ((2 : Nat) : Int) = 2 from rfl] at cT
          have CT := Lib.hid cT
          clear cT hp hO
          go_wp2_with fail
          refine CT.out.mono ?_
          rintro e w1 ⟨v, rfl, hO1, hB1⟩
          have HO1 := Lib.hid (hO1.mono hB.size)
          have hB2 := hB.trans (hB1.mono hB.size)
          clear hO1 hB1 CT
          go_wp2
          go_roundw
          case rel => exact ⟨j + 1, m - 1, by omega, vint (by omega), HO1.out, hB2⟩
          case measure => simp [RowKit.intOf]; omega
        · obtain rfl : m = 0 := by omega
          obtain rfl : j = k := by omega
          have HO := Lib.hid hO
          clear hO
          go_wp2
          go_ret
          exact ⟨_, rfl, HO.out, hB⟩

set_option maxRecDepth 100000 in
set_option maxHeartbeats 4000000 in
theorem rpow_b5 (k : Nat) (w : World) (hk : k ≤ 10000) :
    Calls Tryz.prog 62 #[.int .i64 5, .int .i64 k] w (Makes .i64 3 w (dig D4 (5 ^ k))) := by
  have hO0 := own_oneb w 1 3
  rw [← dig4_oneb 5] at hO0
  have HO0 := Lib.hid hO0
  have hB0 := (Below.refl w.heap.size w).alloc (Nat.le_refl _) (.cells #[.int .i64 (1 : Nat)] 3)
  clear hO0
  go_enter Tryz.func62, Tryz.ntmps62
  go_wp2
  go_loopw [5, 1] (fun v q wr => ∃ j m : Nat, j + m = k ∧ q = .int .i64 m ∧ Own .i64 wr w.heap.size 3 v (dig D4 (5 ^ j)) ∧ Below w.heap.size w wr) (fun _ q _ => (RowKit.intOf q).toNat)
  case atStart => exact ⟨0, k, by omega, rfl, HO0.out, hB0⟩
  case round =>
    clear HO0 hB0
    obtain ⟨j, m, hjm, rfl, hO, hB⟩ := hrel
    obtain ⟨A5, c5, rfl, _⟩ := hO.slice
    by_cases h8 : 8 ≤ m
    · have cT := rtim_any A5 c5 390625 (dig D4 (5 ^ j)) wr (lim4p _) (by have := dig4_powb (b := 5) (j := j) (by omega) (by omega); omega) (by omega) (by omega) hO.rd
      have hp : 5 ^ j * 390625 = 5 ^ (j + 8) := by rw [Nat.pow_add]
      rw [dig_vl (by decide), hp, show ((390625 : Nat) : Int) = 390625 from rfl] at cT
      have CT := Lib.hid cT
      clear cT hp hO
      go_wp2_with fail
      refine CT.out.mono ?_
      rintro e w1 ⟨v, rfl, hO1, hB1⟩
      have HO1 := Lib.hid (hO1.mono hB.size)
      have hB2 := hB.trans (hB1.mono hB.size)
      clear hO1 hB1 CT
      go_wp2
      go_roundw
      case rel => exact ⟨j + 8, m - 8, by omega, vint (by omega), HO1.out, hB2⟩
      case measure => simp [RowKit.intOf]; omega
    · go_wp2
      obtain ⟨wo, rfl⟩ : ∃ wo : World, wo = wr := ⟨wr, rfl⟩
      go_loopw [5, 1] (fun v q wi => ∃ j m : Nat, j + m = k ∧ q = .int .i64 m ∧ Own .i64 wi w.heap.size 3 v (dig D4 (5 ^ j)) ∧ Below w.heap.size w wi) (fun _ q _ => (RowKit.intOf q).toNat)
      case atStart => exact ⟨j, m, hjm, rfl, hO, hB⟩
      case round =>
        clear hO hB hjm h8
        obtain ⟨j, m, hjm, rfl, hO, hB⟩ := hrel
        obtain ⟨A5, c5, rfl, _⟩ := hO.slice
        by_cases h1 : 0 < m
        · have cT := rtim_any A5 c5 5 (dig D4 (5 ^ j)) wr (lim4p _) (by have := dig4_powb (b := 5) (j := j) (by omega) (by omega); omega) (by omega) (by omega) hO.rd
          have hp : 5 ^ j * 5 = 5 ^ (j + 1) := by rw [Nat.pow_succ]
          rw [dig_vl (by decide), hp, show ((5 : Nat) : Int) = 5 from rfl] at cT
          have CT := Lib.hid cT
          clear cT hp hO
          go_wp2_with fail
          refine CT.out.mono ?_
          rintro e w1 ⟨v, rfl, hO1, hB1⟩
          have HO1 := Lib.hid (hO1.mono hB.size)
          have hB2 := hB.trans (hB1.mono hB.size)
          clear hO1 hB1 CT
          go_wp2
          go_roundw
          case rel => exact ⟨j + 1, m - 1, by omega, vint (by omega), HO1.out, hB2⟩
          case measure => simp [RowKit.intOf]; omega
        · obtain rfl : m = 0 := by omega
          obtain rfl : j = k := by omega
          have HO := Lib.hid hO
          clear hO
          go_wp2
          go_ret
          exact ⟨_, rfl, HO.out, hB⟩

set_option maxRecDepth 100000 in
set_option maxHeartbeats 4000000 in
theorem rpow_b10 (k : Nat) (w : World) (hk : k ≤ 10000) :
    Calls Tryz.prog 62 #[.int .i64 10, .int .i64 k] w (Makes .i64 3 w (dig D4 (10 ^ k))) := by
  have hO0 := own_oneb w 1 3
  rw [← dig4_oneb 10] at hO0
  have HO0 := Lib.hid hO0
  have hB0 := (Below.refl w.heap.size w).alloc (Nat.le_refl _) (.cells #[.int .i64 (1 : Nat)] 3)
  clear hO0
  go_enter Tryz.func62, Tryz.ntmps62
  go_wp2
  go_loopw [5, 1] (fun v q wr => ∃ j m : Nat, j + m = k ∧ q = .int .i64 m ∧ Own .i64 wr w.heap.size 3 v (dig D4 (10 ^ j)) ∧ Below w.heap.size w wr) (fun _ q _ => (RowKit.intOf q).toNat)
  case atStart => exact ⟨0, k, by omega, rfl, HO0.out, hB0⟩
  case round =>
    clear HO0 hB0
    obtain ⟨j, m, hjm, rfl, hO, hB⟩ := hrel
    obtain ⟨A5, c5, rfl, _⟩ := hO.slice
    by_cases h8 : 8 ≤ m
    · have cT := rtim_any A5 c5 100000000 (dig D4 (10 ^ j)) wr (lim4p _) (by have := dig4_powb (b := 10) (j := j) (by omega) (by omega); omega) (by omega) (by omega) hO.rd
      have hp : 10 ^ j * 100000000 = 10 ^ (j + 8) := by rw [Nat.pow_add]
      rw [dig_vl (by decide), hp, show ((100000000 : Nat) : Int) = 100000000 from rfl] at cT
      have CT := Lib.hid cT
      clear cT hp hO
      go_wp2_with fail
      refine CT.out.mono ?_
      rintro e w1 ⟨v, rfl, hO1, hB1⟩
      have HO1 := Lib.hid (hO1.mono hB.size)
      have hB2 := hB.trans (hB1.mono hB.size)
      clear hO1 hB1 CT
      go_wp2
      go_roundw
      case rel => exact ⟨j + 8, m - 8, by omega, vint (by omega), HO1.out, hB2⟩
      case measure => simp [RowKit.intOf]; omega
    · go_wp2
      obtain ⟨wo, rfl⟩ : ∃ wo : World, wo = wr := ⟨wr, rfl⟩
      go_loopw [5, 1] (fun v q wi => ∃ j m : Nat, j + m = k ∧ q = .int .i64 m ∧ Own .i64 wi w.heap.size 3 v (dig D4 (10 ^ j)) ∧ Below w.heap.size w wi) (fun _ q _ => (RowKit.intOf q).toNat)
      case atStart => exact ⟨j, m, hjm, rfl, hO, hB⟩
      case round =>
        clear hO hB hjm h8
        obtain ⟨j, m, hjm, rfl, hO, hB⟩ := hrel
        obtain ⟨A5, c5, rfl, _⟩ := hO.slice
        by_cases h1 : 0 < m
        · have cT := rtim_any A5 c5 10 (dig D4 (10 ^ j)) wr (lim4p _) (by have := dig4_powb (b := 10) (j := j) (by omega) (by omega); omega) (by omega) (by omega) hO.rd
          have hp : 10 ^ j * 10 = 10 ^ (j + 1) := by rw [Nat.pow_succ]
          rw [dig_vl (by decide), hp, show ((10 : Nat) : Int) = 10 from rfl] at cT
          have CT := Lib.hid cT
          clear cT hp hO
          go_wp2_with fail
          refine CT.out.mono ?_
          rintro e w1 ⟨v, rfl, hO1, hB1⟩
          have HO1 := Lib.hid (hO1.mono hB.size)
          have hB2 := hB.trans (hB1.mono hB.size)
          clear hO1 hB1 CT
          go_wp2
          go_roundw
          case rel => exact ⟨j + 1, m - 1, by omega, vint (by omega), HO1.out, hB2⟩
          case measure => simp [RowKit.intOf]; omega
        · obtain rfl : m = 0 := by omega
          obtain rfl : j = k := by omega
          have HO := Lib.hid hO
          clear hO
          go_wp2
          go_ret
          exact ⟨_, rfl, HO.out, hB⟩

end Go.Proofs.YtohickpkkldmdaaGreatDoor

namespace Go.Proofs.YtohickpkkldmdaaGreatDoor
open Go.RowKit Go.Lib

/-- The sum's pieces so far. -/
structure RAdd (xs ys ds : List Nat) (k c : Nat) : Prop where
  len : ds.length = k
  lim : Lim D4 ds
  hc : c ≤ 1
  eq : vl D4 ds + D4 ^ k * c = vl D4 (xs.take k) + vl D4 (ys.take k)
  top : k ≤ xs.length ∨ k ≤ ys.length ∨ c = 0
theorem radd_step {xs ys ds : List Nat} {k c : Nat} (h : RAdd xs ys ds k c) (hx : Lim D4 xs) (hy : Lim D4 ys) (z : Nat) (hz : z = c + xs.getD k 0 + ys.getD k 0) : RAdd xs ys (ds ++ [z % 10000]) (k + 1) (z / 10000) := by
  have b1 := getD_lt hx (by decide) k
  have b2 := getD_lt hy (by decide) k
  have h3 := h.hc
  refine ⟨by rw [List.length_append, h.len]; rfl, lim_append.2 ⟨h.lim, lim_one.2 (Nat.mod_lt _ (by decide))⟩, ?_, ?_, ?_⟩
  · have : z < 20000 := by show z < 20000; have a : D4 = 10000 := rfl; omega
    omega
  · have e1 := h.eq
    have hd : D4 ^ k * z = D4 ^ k * (z % 10000) + D4 ^ k * D4 * (z / 10000) := digit_step (B := 10000) (P := D4 ^ k) (z := z)
    have e2 := congrArg (D4 ^ k * ·) hz
    simp only [Nat.mul_add] at e2
    rw [vl_snoc, h.len, vl_take_get, vl_take_get, Nat.pow_succ]
    omega
  · by_cases a : k < xs.length
    · exact .inl a
    · by_cases b : k < ys.length
      · exact .inr (.inl b)
      · rw [getD_no a, getD_no b] at hz
        exact .inr (.inr (by omega))
theorem radd_end {xs ys ds : List Nat} {k : Nat} (h : RAdd xs ys ds k 0) (hx : xs.length ≤ k) (hy : ys.length ≤ k) : vl D4 ds = vl D4 xs + vl D4 ys := by
  have := h.eq
  rwa [vl_take_all hx, vl_take_all hy, Nat.mul_zero, Nat.add_zero] at this

set_option maxRecDepth 100000 in
set_option maxHeartbeats 4000000 in
theorem radd_any (A A' : Option Addr) (ca cb : Nat) (xs ys : List Nat) (w : World) (hx : Lim D4 xs) (hy : Lim D4 ys) (hxn : xs.length ≤ 1000000) (hyn : ys.length ≤ 1000000) (hra : Rd .i64 w A xs) (hrb : Rd .i64 w A' ys) :
    Calls Tryz.prog 196 #[.slice A xs.length ca, .slice A' ys.length cb] w (Makes .i64 3 w (dig D4 (vl D4 xs + vl D4 ys))) := by
  obtain ⟨i0, hi, hz0, hz1, hz2⟩ := info_parts info_i64
  go_enter Tryz.func196, Tryz.ntmps196
  go_wp2
  go_loopw [5, 6, 7] (fun v c i wr => ∃ (k z : Nat) (ds : List Nat), i = .int .i64 k ∧ c = .int .i64 z ∧ Own .i64 wr w.heap.size 3 v ds ∧ RAdd xs ys ds k z ∧ k ≤ 1000001 ∧ Below w.heap.size w wr) (fun _ _ i _ => xs.length + ys.length + 1 - (RowKit.intOf i).toNat)
  case atStart => exact ⟨0, 0, [], rfl, rfl, Own.nil _ _ _, ⟨rfl, lim_nil _, by omega, by simp [vl], .inl (Nat.zero_le _)⟩, by omega, Below.refl _ _⟩
  case round =>
    obtain ⟨k, z, ds, rfl, rfl, hO, hR, hk, hB⟩ := hrel
    obtain ⟨A5, c5, rfl, _⟩ := hO.slice
    have hz1' : z ≤ 1 := hR.hc
    by_cases hgo : k < xs.length ∨ k < ys.length ∨ 0 < z
    · have hkb : k ≤ 1000000 := by have := hR.top; omega
      have hks : k ≤ xs.length + ys.length := by have := hR.top; omega
      have hdl := hR.len
      have hown := hO.row hdl
      have HDL := Lib.hid hdl
      have hsz := hB.size
      rw [hdl] at hown
      rw [hdl]
      have hg2 : k < xs.length ∨ ¬ k < xs.length := by omega
      obtain ⟨x, hxe, hxk⟩ : ∃ x, xs.getD k 0 = x ∧ x < 10000 := ⟨_, rfl, getD_lt hx (by decide) k⟩
      obtain ⟨y, hye, hyk⟩ : ∃ y, ys.getD k 0 = y ∧ y < 10000 := ⟨_, rfl, getD_lt hy (by decide) k⟩
      have HS := Lib.hid (radd_step hR hx hy (z + x + y) (by rw [hxe, hye]))
      clear hR hdl hO
      have hcx : k < xs.length → ∃ g o, A = some ⟨g, o, none⟩ ∧ wr.cell? ⟨g, o + k, none⟩ = some (.int .i64 (x : Nat)) := fun h => by
        obtain ⟨g, o, e, hc⟩ := (hra.below hB) k h
        exact ⟨g, o, e, by rw [hc, ← getD_of h, hxe]⟩
      have hcy : k < ys.length → ∃ g o, A' = some ⟨g, o, none⟩ ∧ wr.cell? ⟨g, o + k, none⟩ = some (.int .i64 (y : Nat)) := fun h => by
        obtain ⟨g, o, e, hc⟩ := (hrb.below hB) k h
        exact ⟨g, o, e, by rw [hc, ← getD_of h, hye]⟩
      have hx0 : ¬ k < xs.length → x = 0 := fun h => by rw [← hxe]; exact getD_no h
      have hy0 : ¬ k < ys.length → y = 0 := fun h => by rw [← hye]; exact getD_no h
      have HCX := Lib.hid hcx
      have HCY := Lib.hid hcy
      have HX0 := Lib.hid hx0
      have HY0 := Lib.hid hy0
      clear hcx hcy hx0 hy0 hxe hye hg2
      by_cases hlx : k < xs.length
      · by_cases hly : k < ys.length
        · obtain ⟨g, o, rfl, hc⟩ := HCX.out hlx
          obtain ⟨g', o', rfl, hc'⟩ := HCY.out hly
          clear hgo HCX HCY HX0 HY0
          obtain ⟨S, hS⟩ : ∃ S, z + x + y = S := ⟨_, rfl⟩
          rw [hS] at HS
          have hSi : (z : Int) + (x : Int) + (y : Int) = (S : Int) := by omega
          clear hS
          go_wp2_with (at_builtin; refine wpList_append_own _ rfl _ _ 85 rfl w.heap.size 3 i0 (.int .i64 0) 1 8 Tryz.underlying85 hi hz0 hz1 hz2 rfl (by decide) _ _ _ rfl (hown.alloc _) ⟨wr.heap.size, 0, none⟩ 1 1 [.int .i64 ((S % 10000 : Nat) : Int)] rfl rfl (cell_one_new _ _ _) ?c2 ?c3 ?c4 ?c5 ?_)
          case c2 => simp [Value.oneCell']
          case c3 => unfold maxLen; omega
          case c4 => omega
          case c5 => first | omega | (simp; omega)
          intro v' w4 hown' hgrow _
          have hB4 : Below w.heap.size w w4 := (hB.alloc hsz _).grown hgrow (by simp; omega) (fun z e => (hown.lt z e).1)
          have HO1 := Lib.hid (Own.snoc hown' HDL.out.symm)
          clear hown hown' hgrow
          go_wp2
          go_roundw
          case rel => exact ⟨k + 1, S / 10000, ds ++ [S % 10000], vint (by omega), vint (by omega), HO1.out, HS.out, Nat.succ_le_succ hkb, hB4⟩
          case measure => simp [RowKit.intOf]; omega
        · obtain ⟨g, o, rfl, hc⟩ := HCX.out hlx
          obtain rfl := HY0.out hly
          clear hgo HCX HCY HX0 HY0
          obtain ⟨S, hS⟩ : ∃ S, z + x + 0 = S := ⟨_, rfl⟩
          rw [hS] at HS
          have hSi : (z : Int) + (x : Int) = (S : Int) := by omega
          clear hS
          go_wp2_with (at_builtin; refine wpList_append_own _ rfl _ _ 85 rfl w.heap.size 3 i0 (.int .i64 0) 1 8 Tryz.underlying85 hi hz0 hz1 hz2 rfl (by decide) _ _ _ rfl (hown.alloc _) ⟨wr.heap.size, 0, none⟩ 1 1 [.int .i64 ((S % 10000 : Nat) : Int)] rfl rfl (cell_one_new _ _ _) ?c2 ?c3 ?c4 ?c5 ?_)
          case c2 => simp [Value.oneCell']
          case c3 => unfold maxLen; omega
          case c4 => omega
          case c5 => first | omega | (simp; omega)
          intro v' w4 hown' hgrow _
          have hB4 : Below w.heap.size w w4 := (hB.alloc hsz _).grown hgrow (by simp; omega) (fun z e => (hown.lt z e).1)
          have HO1 := Lib.hid (Own.snoc hown' HDL.out.symm)
          clear hown hown' hgrow
          go_wp2
          go_roundw
          case rel => exact ⟨k + 1, S / 10000, ds ++ [S % 10000], vint (by omega), vint (by omega), HO1.out, HS.out, Nat.succ_le_succ hkb, hB4⟩
          case measure => simp [RowKit.intOf]; omega
      · by_cases hly : k < ys.length
        · obtain rfl := HX0.out hlx
          obtain ⟨g', o', rfl, hc'⟩ := HCY.out hly
          clear hgo HCX HCY HX0 HY0
          obtain ⟨S, hS⟩ : ∃ S, z + 0 + y = S := ⟨_, rfl⟩
          rw [hS] at HS
          have hSi : (z : Int) + (y : Int) = (S : Int) := by omega
          clear hS
          go_wp2_with (at_builtin; refine wpList_append_own _ rfl _ _ 85 rfl w.heap.size 3 i0 (.int .i64 0) 1 8 Tryz.underlying85 hi hz0 hz1 hz2 rfl (by decide) _ _ _ rfl (hown.alloc _) ⟨wr.heap.size, 0, none⟩ 1 1 [.int .i64 ((S % 10000 : Nat) : Int)] rfl rfl (cell_one_new _ _ _) ?c2 ?c3 ?c4 ?c5 ?_)
          case c2 => simp [Value.oneCell']
          case c3 => unfold maxLen; omega
          case c4 => omega
          case c5 => first | omega | (simp; omega)
          intro v' w4 hown' hgrow _
          have hB4 : Below w.heap.size w w4 := (hB.alloc hsz _).grown hgrow (by simp; omega) (fun z e => (hown.lt z e).1)
          have HO1 := Lib.hid (Own.snoc hown' HDL.out.symm)
          clear hown hown' hgrow
          go_wp2
          go_roundw
          case rel => exact ⟨k + 1, S / 10000, ds ++ [S % 10000], vint (by omega), vint (by omega), HO1.out, HS.out, Nat.succ_le_succ hkb, hB4⟩
          case measure => simp [RowKit.intOf]; omega
        · obtain rfl := HX0.out hlx
          obtain rfl := HY0.out hly
          have hzp : 0 < z := by omega
          clear hgo HCX HCY HX0 HY0
          go_wp2_with (at_builtin; refine wpList_append_own _ rfl _ _ 85 rfl w.heap.size 3 i0 (.int .i64 0) 1 8 Tryz.underlying85 hi hz0 hz1 hz2 rfl (by decide) _ _ _ rfl (hown.alloc _) ⟨wr.heap.size, 0, none⟩ 1 1 [.int .i64 ((z % 10000 : Nat) : Int)] rfl rfl (cell_one_new _ _ _) ?c2 ?c3 ?c4 ?c5 ?_)
          case c2 => simp [Value.oneCell']
          case c3 => unfold maxLen; omega
          case c4 => omega
          case c5 => first | omega | (simp; omega)
          intro v' w4 hown' hgrow _
          have hB4 : Below w.heap.size w w4 := (hB.alloc hsz _).grown hgrow (by simp; omega) (fun z e => (hown.lt z e).1)
          have HO1 := Lib.hid (Own.snoc hown' HDL.out.symm)
          clear hown hown' hgrow
          go_wp2
          go_roundw
          case rel => exact ⟨k + 1, z / 10000, ds ++ [z % 10000], vint (by omega), vint (by omega), HO1.out, HS.out, Nat.succ_le_succ hkb, hB4⟩
          case measure => simp [RowKit.intOf]; omega
    · have hlx : ¬ k < xs.length := by omega
      have hly : ¬ k < ys.length := by omega
      obtain rfl : z = 0 := by omega
      have he := radd_end hR (by omega) (by omega)
      have hl := hR.len
      have cT := rtrim_own _ _ ds wr hR.lim (by omega) hO
      rw [he] at cT
      have CT := Lib.hid cT
      clear cT hO hR he hl hgo
      go_wp2_with fail
      refine CT.out.mono ?_
      rintro e w' ⟨⟨v', rfl, hO7⟩, rfl⟩
      have HO7 := Lib.hid hO7
      clear hO7 CT
      go_wp2
      go_ret
      exact ⟨_, rfl, HO7.out, hB⟩
end Go.Proofs.YtohickpkkldmdaaGreatDoor

namespace Go.Proofs.YtohickpkkldmdaaGreatDoor
open Go.RowKit Go.Lib

/-- The state of the inner loop. -/
structure RMul (base cur : List Nat) (i j c x : Nat) (ys : List Nat) : Prop where
  len : cur.length = base.length
  lim : Lim D4 cur
  hc : c < 10000
  eq : vl D4 cur + D4 ^ (i + j) * c = vl D4 base + D4 ^ i * (x * vl D4 (ys.take j))
theorem rmul_start {base : List Nat} (h : Lim D4 base) (i x : Nat) (ys : List Nat) : RMul base base i 0 0 x ys := ⟨rfl, h, by omega, by simp [vl]⟩
theorem rmul_step {base cur ys : List Nat} {i j c x : Nat} (h : RMul base cur i j c x ys) (hx : x < 10000) (hy : Lim D4 ys) (hi : i + j < cur.length) (z : Nat) (hz : z = c + cur[i + j] + x * ys.getD j 0) :
    RMul base (cur.set (i + j) (z % 10000)) i (j + 1) (z / 10000) x ys := by
  have b1 : ys.getD j 0 < 10000 := getD_lt hy (by decide) j
  have b2 : cur[i + j] < 10000 := lim_get h.lim (i + j) hi
  refine ⟨by rw [List.length_set, h.len], lim_set h.lim (Nat.mod_lt _ (by decide)), ?_, ?_⟩
  · have h1 : x * ys.getD j 0 ≤ 9999 * 9999 := Nat.mul_le_mul (by omega) (by omega)
    have h3 := h.hc
    omega
  · have e1 := vl_set D4 cur (i + j) (z % 10000) hi
    have e2 := h.eq
    have hd : D4 ^ (i + j) * z = D4 ^ (i + j) * (z % 10000) + D4 ^ (i + j) * D4 * (z / 10000) := digit_step (B := 10000) (P := D4 ^ (i + j)) (z := z)
    have e3 := congrArg (D4 ^ (i + j) * ·) hz
    have e4 : D4 ^ i * (x * (D4 ^ j * ys.getD j 0)) = D4 ^ (i + j) * (x * ys.getD j 0) := by rw [Nat.pow_add, Nat.mul_left_comm x, Nat.mul_assoc]
    rw [vl_take_get, show i + (j + 1) = (i + j) + 1 by omega, Nat.pow_succ]
    simp only [Nat.mul_add] at e3 ⊢
    rw [e4]
    omega
/-- Beyond the second number's last piece and one more nothing is carried. -/
theorem rmul_carry {base cur xs ys : List Nat} {i j c x : Nat} (h : RMul base cur i j c x ys) (hv : vl D4 base = vl D4 (xs.take i) * vl D4 ys) (hxi : i < xs.length) (hxx : xs[i] = x) (hx : Lim D4 xs) (hy : Lim D4 ys) (hj : ys.length ≤ j) (hc : 0 < c) : j ≤ ys.length := by
  have e := h.eq
  rw [vl_take_all hj, hv] at e
  have e2 : vl D4 (xs.take i) * vl D4 ys + D4 ^ i * (x * vl D4 ys) = vl D4 (xs.take (i + 1)) * vl D4 ys := by
    rw [vl_take_succ D4 xs i hxi, hxx, Nat.add_mul, Nat.mul_assoc]
  rw [e2] at e
  have h1 : vl D4 (xs.take (i + 1)) < D4 ^ (i + 1) := by
    have := vl_lt (lim_take hx (i + 1))
    rwa [List.length_take, Nat.min_eq_left (by omega)] at this
  have h2 := vl_lt hy
  have h3 : vl D4 (xs.take (i + 1)) * vl D4 ys < D4 ^ (i + 1) * D4 ^ ys.length := Nat.mul_lt_mul'' h1 h2
  rw [← Nat.pow_add] at h3
  have h4 : D4 ^ (i + j) * 1 ≤ D4 ^ (i + j) * c := Nat.mul_le_mul_left _ hc
  have h5 : D4 ^ (i + j) < D4 ^ (i + 1 + ys.length) := by omega
  have := (Nat.pow_lt_pow_iff_right (show 1 < D4 by decide)).1 h5
  omega
theorem at_madeI (w : World) (n : Nat) : At .i64 (w.alloc (.cells (madeCells #[Value.int .i64 0] n) 3)) w.heap.size 3 [] (List.replicate n 0) [] := by
  refine ⟨_, heap_alloc_new w _, ?_⟩
  rw [toList_madeCells_one, nums, List.map_replicate]
  simp

set_option maxRecDepth 100000 in
set_option maxHeartbeats 4000000 in
theorem rmul_any (A A' : Option Addr) (ca cb : Nat) (xs ys : List Nat) (w : World) (hx : Lim D4 xs) (hy : Lim D4 ys) (hxn : xs.length ≤ 1000000) (hyn : ys.length ≤ 1000000) (hra : Rd .i64 w A xs) (hrb : Rd .i64 w A' ys) :
    Calls Tryz.prog 60 #[.slice A xs.length ca, .slice A' ys.length cb] w (Makes .i64 3 w (dig D4 (vl D4 xs * vl D4 ys))) := by
  obtain ⟨i0, hi, hz0, hz1, hz2⟩ := info_parts info_i64
  have hmk : ∀ W : World, (Instr.makeSlice 85 (.int .i64 ((xs.length : Int) + (ys.length : Int) + 1)) (.int .i64 ((xs.length : Int) + (ys.length : Int) + 1))).run Tryz.prog W = .ok (.slice (some ⟨W.heap.size, 0, none⟩) (xs.length + ys.length + 1) (xs.length + ys.length + 1)) (W.alloc (.cells (madeCells (Value.int .i64 0).cells ((xs.length + ys.length + 1) * 1)) 3)) := fun W => by
    have := run_make (P := Tryz.prog) W 85 3 i0 (.int .i64 0) Tryz.underlying85 hi hz0 .i64 .i64 ((xs.length : Int) + (ys.length : Int) + 1) ((xs.length : Int) + (ys.length : Int) + 1) (by omega) (by omega) (by rw [hz2]; omega) (by omega)
    rw [hz1, show ((xs.length : Int) + (ys.length : Int) + 1).toNat = xs.length + ys.length + 1 by omega] at this
    exact this
  clear hi hz0 hz1 hz2
  go_enter Tryz.func60, Tryz.ntmps60
  go_wp2
  have fN := at_madeI w (xs.length + ys.length + 1)
  have hBa := (Below.refl w.heap.size w).alloc (Nat.le_refl _) (.cells (madeCells #[Value.int .i64 0] (xs.length + ys.length + 1)) 3)
  obtain ⟨g, hg⟩ : ∃ g, w.heap.size = g := ⟨_, rfl⟩
  have hgB : w.heap.size ≤ g := by omega
  rw [hg] at fN
  rw [hg]
  have HG := Lib.hid hg
  clear hg
  go_loopw [6] (fun i wr => ∃ (k : Nat) (cur : List Nat), k ≤ xs.length ∧ i = .int .i64 k ∧ At .i64 wr g 3 [] cur [] ∧ cur.length = xs.length + ys.length + 1 ∧ Lim D4 cur ∧ vl D4 cur = vl D4 (xs.take k) * vl D4 ys ∧ Below w.heap.size w wr) (fun i _ => xs.length - (RowKit.intOf i).toNat)
  case atStart => exact ⟨0, _, Nat.zero_le _, rfl, fN, List.length_replicate, lim_zeros (by decide) _, by rw [vl_zeros]; simp [vl], hBa⟩
  case round =>
    clear fN hBa
    obtain ⟨k, cur, hk, rfl, fA, hlen, hL, hv, hB⟩ := hrel
    have HLEN := Lib.hid hlen
    have HV := Lib.hid hv
    clear hlen hv
    by_cases hlt : k < xs.length
    · obtain ⟨ga, oa, rfl, hca⟩ := hra k hlt
      obtain ⟨x, hxe, hxk⟩ := lim4 hx k hlt
      rw [hxe] at hca
      have HXE := Lib.hid hxe
      have hgab := World.block_lt_of_cell? w _ hca
      clear hxe
      go_wp2
      obtain ⟨wo, rfl⟩ : ∃ wo : World, wo = wr := ⟨wr, rfl⟩
      go_loopw [7, 8] (fun c j wi => ∃ (m z : Nat) (cur' : List Nat), j = .int .i64 m ∧ c = .int .i64 z ∧ At .i64 wi g 3 [] cur' [] ∧ RMul cur cur' k m z x ys ∧ (m ≤ ys.length ∨ z = 0) ∧ m ≤ ys.length + 1 ∧ Below w.heap.size w wi) (fun _ j _ => ys.length + 1 - (RowKit.intOf j).toNat)
      case atStart => exact ⟨0, 0, cur, rfl, rfl, fA, rmul_start hL k x ys, .inl (Nat.zero_le _), by omega, hB⟩
      case round =>
        clear fA hB
        obtain ⟨m, z, cur', rfl, rfl, fA, hM, hmz, hmb, hB⟩ := hrel
        have hzb : z < 10000 := hM.hc
        have hlc : cur'.length = xs.length + ys.length + 1 := by rw [hM.len, HLEN.out]
        by_cases hgo : m < ys.length ∨ 0 < z
        · have hml : m ≤ ys.length := by omega
          have hkm : k + m < cur'.length := by omega
          obtain ⟨d, hde, hdk⟩ := lim4 hM.lim (k + m) hkm
          have hcd := fA.cell (o := 0) rfl (k + m) hkm
          rw [Nat.zero_add, hde] at hcd
          have hfz := fA.frozen (k + m)
          have hkml : (k : Int) + (m : Int) < (xs.length : Int) + (ys.length : Int) + 1 := by omega
          have hcw : wr.cell? ⟨ga, oa + k, none⟩ = some (.int .i64 (x : Nat)) := (hB.cell hgab).trans hca
          by_cases hmt : m < ys.length
          · obtain ⟨gb, ob, rfl, hcb⟩ := (hrb.below hB) m hmt
            obtain ⟨y, hye, hyk⟩ := lim4 hy m hmt
            rw [hye] at hcb
            have hpb : x * y ≤ 9999 * 9999 := Nat.mul_le_mul (by omega) (by omega)
            obtain ⟨p, hp⟩ : ∃ p, x * y = p := ⟨_, rfl⟩
            have hpi : (x : Int) * (y : Int) = (p : Int) := by rw [← hp]; exact (Int.natCast_mul _ _).symm
            rw [hp] at hpb
            have hS := rmul_step hM hxk hy hkm (z + d + p) (by rw [getD_of hmt, hye, hde, hp])
            have hA1 := fA.set (o := 0) rfl (k + m) ((z + d + p) % 10000) hkm
            rw [Nat.zero_add] at hA1
            have HS := Lib.hid hS
            have hx1 : (k : Int) < (xs.length : Int) := by omega
            have hy1 : (m : Int) < (ys.length : Int) := by omega
            clear hye hde hp hS hM hlc hkm hmz hgo
            obtain ⟨S, hSe⟩ : ∃ S, z + d + p = S := ⟨_, rfl⟩
            rw [hSe] at HS hA1
            have hSi : (z : Int) + (d : Int) + (p : Int) = (S : Int) := by omega
            have hSb : S ≤ 100000000 := by omega
            have hw1 : IntKind.i64.wrap (p : Int) = (p : Int) := IntWalk.i64_in _ (by omega)
            have hw2 : IntKind.i64.wrap (S : Int) = (S : Int) := IntWalk.i64_in _ (by omega)
            have HA1 := Lib.hid hA1
            clear hA1 hSe
            go_wp2
            go_quiet (fail)
            clear hw1 hw2
            go_wp2
            clear hpi hSi
            go_roundw
            case rel => exact ⟨m + 1, S / 10000, _, by go_num, vint (by omega), HA1.out, HS.out, by omega, by omega, (below_drewN' hB _).setCell hgB _⟩
            case measure => simp [RowKit.intOf]; omega
          · have hzp : 0 < z := by omega
            have hS := rmul_step hM hxk hy hkm (z + d) (by rw [getD_no hmt, hde]; simp)
            have hA1 := fA.set (o := 0) rfl (k + m) ((z + d) % 10000) hkm
            rw [Nat.zero_add] at hA1
            have HS := Lib.hid hS
            have HA1 := Lib.hid hA1
            have hc2 : m + 1 ≤ ys.length ∨ (z + d) / 10000 = 0 := by
              rcases Nat.eq_zero_or_pos ((z + d) / 10000) with h | h
              · exact .inr h
              · have := rmul_carry hS HV.out hlt HXE.out hx hy (by omega) h
                omega
            clear hde hS hA1 hM hlc hkm hmz hgo
            go_wp2
            go_roundw
            case rel => exact ⟨m + 1, (z + d) / 10000, _, by go_num, vint (by omega), HA1.out, HS.out, hc2, by omega, hB.setCell hgB _⟩
            case measure => simp [RowKit.intOf]; omega
        · have hmy : ys.length ≤ m := by omega
          obtain rfl : z = 0 := by omega
          have hv2 : vl D4 cur' = vl D4 (xs.take (k + 1)) * vl D4 ys := by
            have e := hM.eq
            rw [vl_take_all hmy, Nat.mul_zero, Nat.add_zero, HV.out] at e
            rw [e, vl_take_succ D4 xs k hlt, HXE.out, Nat.add_mul, Nat.mul_assoc]
          have HV2 := Lib.hid hv2
          have HLC := Lib.hid hlc
          have hlim := hM.lim
          have hm1 : ¬ m < ys.length := by omega
          clear hv2 hlc hM hmz hgo
          go_wp2
          go_roundw
          case rel => exact ⟨k + 1, cur', hlt, by go_num, fA, HLC.out, hlim, HV2.out, hB⟩
          case measure => simp [RowKit.intOf]; omega
    · obtain rfl : k = xs.length := by omega
      have hO := own_of_at (B := w.heap.size) (cap := xs.length + ys.length + 1) fA hgB (by rw [HLEN.out]; rfl) (by unfold maxLen; omega)
      rw [HLEN.out] at hO
      have cT := rtrim_own _ _ cur wr hL (by rw [HLEN.out]; omega) hO
      have hv := HV.out
      rw [vl_take_all (Nat.le_refl _)] at hv
      rw [hv] at cT
      have CT := Lib.hid cT
      clear cT hO hv fA
      go_wp2_with fail
      refine CT.out.mono ?_
      rintro e w' ⟨⟨v', rfl, hO7⟩, rfl⟩
      have HO7 := Lib.hid hO7
      clear hO7 CT
      go_wp2
      go_ret
      exact ⟨_, rfl, HO7.out, hB⟩
end Go.Proofs.YtohickpkkldmdaaGreatDoor

namespace Go.Proofs.YtohickpkkldmdaaGreatDoor
open Go.RowKit Go.Lib

set_option maxRecDepth 100000 in
set_option maxHeartbeats 1000000 in
theorem rparts_no (b : Nat) (w : World) (hb : b < 18446744073709551616) (_h : 9218868437227405312 ≤ mag b) (h2 : mag b / 4503599627370496 = 2047) : Calls Tryz.prog 54 #[.float .f64 b] w fun e w' => e = .returned (.tuple #[.int .u64 0, .int .i64 0, .bool false]) ∧ w = w' := by
  have hr := run_f64bits b w
  have hm : (b : Int) % 9223372036854775808 = ((mag b : Nat) : Int) := by unfold mag; omega
  obtain ⟨m, hme⟩ : ∃ m, mag b = m := ⟨_, rfl⟩
  rw [hme] at h2 hm
  have hy : ((m : Int) / 4503599627370496) = 2047 := by omega
  clear _h h2 hme
  go_enter Tryz.func54, Tryz.ntmps54
  go_wp2
  go_ret3
  exact ⟨rfl, rfl⟩
set_option maxRecDepth 100000 in
set_option maxHeartbeats 1000000 in
theorem rparts_yes (b : Nat) (w : World) (hb : b < 18446744073709551616) (h : mag b < 9218868437227405312) : Calls Tryz.prog 54 #[.float .f64 b] w fun e w' => e = .returned (.tuple #[.int .u64 (manF (mag b)), .int .i64 (expF (mag b)), .bool true]) ∧ w = w' := by
  have hr := run_f64bits b w
  have hm : (b : Int) % 9223372036854775808 = ((mag b : Nat) : Int) := by unfold mag; omega
  obtain ⟨m, hme⟩ : ∃ m, mag b = m := ⟨_, rfl⟩
  rw [hme] at h hm
  rw [hme]
  clear hme
  obtain ⟨y, hy⟩ : ∃ y, m / 4503599627370496 = y := ⟨_, rfl⟩
  have hy2 : y ≤ 2046 := by omega
  have hyd : (m : Int) / 4503599627370496 = (y : Int) := by omega
  have hyn : ((y : Int) == 2047) = false := by rw [beq_eq_false_iff_ne]; omega
  by_cases hs : m < 4503599627370496
  · have HM := Lib.hid (show ((manF m : Nat) : Int) = (m : Int) % 4503599627370496 by rw [manF, if_pos hs]; omega)
    have HE := Lib.hid (show expF m = -1074 by rw [expF, if_pos hs])
    have hy0 : ((y : Int) == 0) = true := by rw [beq_iff_eq]; omega
    clear hy hs
    go_enter Tryz.func54, Tryz.ntmps54
    go_wp2
    go_ret3
    exact ⟨by rw [HM.out, HE.out]; rfl, rfl⟩
  · have HM := Lib.hid (show ((manF m : Nat) : Int) = (m : Int) % 4503599627370496 + 4503599627370496 by rw [manF, if_neg hs]; omega)
    have HE := Lib.hid (show expF m = (y : Int) - 1075 by rw [expF, if_neg hs, hy]; omega)
    have hy0 : ((y : Int) == 0) = false := by rw [beq_eq_false_iff_ne]; omega
    clear hy hs
    go_enter Tryz.func54, Tryz.ntmps54
    go_wp2
    go_ret3
    exact ⟨by rw [HM.out, HE.out]; rfl, rfl⟩
theorem dlen_mul {a b k j : Nat} (ha : (dig D4 a).length ≤ k) (hb : (dig D4 b).length ≤ j) : (dig D4 (a * b)).length ≤ k + j := by
  rw [dig_len_le (by decide)] at ha hb ⊢
  rw [Nat.pow_add]
  exact Nat.mul_lt_mul'' ha hb
/-- The two sides that 'above' compares. -/
def abL (n : Nat) (x : Int) (r : Nat) : Nat := n * (10 ^ x.toNat * 2 ^ (-(expF r - 1)).toNat)
def abR (x : Int) (r : Nat) : Nat := (manF r * 2 + 1) * (10 ^ (-x).toNat * 2 ^ (expF r - 1).toNat)
set_option maxRecDepth 100000 in
set_option maxHeartbeats 4000000 in
theorem above_any (A : Option Addr) (ca n : Nat) (x : Int) (r : Nat) (w : World) (hx0 : -5000 ≤ x) (hx1 : x ≤ 5000) (hr : r < 9218868437227405312) (hnl : (dig D4 n).length ≤ 5000) (hra : Rd .i64 w A (dig D4 n)) :
    Calls Tryz.prog 150 #[.slice A (dig D4 n).length ca, .int .i64 x, .int .u64 r] w fun e w' => e = .returned (.int .i64 (cmpZ (abL n x r) (abR x r))) ∧ Below w.heap.size w w' := by
  have hmr : mag r = r := Nat.mod_eq_of_lt (by omega)
  have hf := fun W => run_f64from r W
  have c1 := fun W => rparts_yes r W (by omega) (by rw [hmr]; exact hr)
  rw [hmr] at c1
  have he := expF_bd hr
  have hml := manF_lt (r := r)
  unfold abL abR
  obtain ⟨m, hm⟩ : ∃ m, manF r = m := ⟨_, rfl⟩
  obtain ⟨E, hE⟩ : ∃ E, expF r = E := ⟨_, rfl⟩
  rw [hm, hE] at c1
  rw [hE] at he
  rw [hm] at hml
  rw [hm, hE]
  have k1 : max x 0 = ((x.toNat : Nat) : Int) := by omega
  have k2 : max (-(E - 1)) 0 = (((-(E - 1)).toNat : Nat) : Int) := by omega
  have k3 : max (-x) 0 = (((-x).toNat : Nat) : Int) := by omega
  have k4 : max (E - 1) 0 = (((E - 1).toNat : Nat) : Int) := by omega
  have b1 : x.toNat ≤ 5000 := by omega
  have b2 : (-(E - 1)).toNat ≤ 5000 := by omega
  have b3 : (-x).toNat ≤ 5000 := by omega
  have b4 : (E - 1).toNat ≤ 5000 := by omega
  generalize x.toNat = p10 at *
  generalize (-(E - 1)).toNat = q2 at *
  generalize (-x).toNat = q10 at *
  generalize (E - 1).toNat = p2 at *
  have cS := fun (W : World) => small_any m W (by omega)
  have cS2 := fun (W : World) => small_any 2 W (by omega)
  have cS1 := fun (W : World) => small_any 1 W (by omega)
  have l1 := dig4_powb (b := 10) (j := p10) (by omega) (by omega)
  have l2 := dig4_powb (b := 2) (j := q2) (by omega) (by omega)
  have l3 := dig4_powb (b := 10) (j := q10) (by omega) (by omega)
  have l4 := dig4_powb (b := 2) (j := p2) (by omega) (by omega)
  have ln : ∀ z, z < 10000000000000000000000000000000000000000 → (dig D4 z).length ≤ 16 := fun z hz => (dig_len_le (by decide) z 16).2 (Nat.lt_trans hz (by decide))
  have cM := fun (A1 A2 : Option Addr) (c1 c2 a b : Nat) (W : World) (h1 : (dig D4 a).length ≤ 30000) (h2 : (dig D4 b).length ≤ 30000) (hr1 : Rd .i64 W A1 (dig D4 a)) (hr2 : Rd .i64 W A2 (dig D4 b)) => rmul_any A1 A2 c1 c2 (dig D4 a) (dig D4 b) W (lim4p _) (lim4p _) (by omega) (by omega) hr1 hr2
  simp only [dig_vl (show 2 ≤ D4 by decide)] at cM
  have cA := fun (A1 A2 : Option Addr) (c1 c2 a b : Nat) (W : World) (h1 : (dig D4 a).length ≤ 30000) (h2 : (dig D4 b).length ≤ 30000) (hr1 : Rd .i64 W A1 (dig D4 a)) (hr2 : Rd .i64 W A2 (dig D4 b)) => radd_any A1 A2 c1 c2 (dig D4 a) (dig D4 b) W (lim4p _) (lim4p _) (by omega) (by omega) hr1 hr2
  simp only [dig_vl (show 2 ≤ D4 by decide)] at cA
  have cC := fun (A1 A2 : Option Addr) (c1 c2 a b : Nat) (W : World) (h1 : (dig D4 a).length ≤ 30000) (h2 : (dig D4 b).length ≤ 30000) (hr1 : Rd .i64 W A1 (dig D4 a)) (hr2 : Rd .i64 W A2 (dig D4 b)) => rcmp_any A1 A2 c1 c2 (dig D4 a) (dig D4 b) W (dig_norm (by decide) _) (dig_norm (by decide) _) (by omega) (by omega) hr1 hr2
  simp only [dig_vl (show 2 ≤ D4 by decide)] at cC
  have CP := Lib.hid c1
  have CS := Lib.hid cS
  have CS2 := Lib.hid cS2
  have CS1 := Lib.hid cS1
  have CM := Lib.hid cM
  have CA := Lib.hid cA
  have CC := Lib.hid cC
  have CPa := Lib.hid (fun W => rpow_b10 p10 W (by omega))
  have CPb := Lib.hid (fun W => rpow_b2 q2 W (by omega))
  have CPc := Lib.hid (fun W => rpow_b10 q10 W (by omega))
  have CPd := Lib.hid (fun W => rpow_b2 p2 W (by omega))
  have m1 : (dig D4 m).length ≤ 16 := ln _ (by omega)
  have m2 : (dig D4 (m * 2)).length ≤ 16 := ln _ (by omega)
  have m3 : (dig D4 (m * 2 + 1)).length ≤ 16 := ln _ (by omega)
  have m4 : (dig D4 2).length ≤ 16 := ln _ (by omega)
  have m5 : (dig D4 1).length ≤ 16 := ln _ (by omega)
  have m6 := dlen_mul l1 l2
  have m7 := dlen_mul l3 l4
  have m8 := dlen_mul hnl m6
  have m9 := dlen_mul m3 m7
  have HA := Lib.hid hra
  have hB := Below.refl w.heap.size w
  clear c1 cS cS2 cS1 cM cA cC hm hE hmr ln hra
  go_enter Tryz.func150, Tryz.ntmps150
  go_wp2_with fail
  refine (CP.out _).mono ?_
  rintro e w' ⟨rfl, rfl⟩
  go_wp2_with fail
  refine (CS.out _).mono ?_
  rintro e w1 ⟨v, rfl, o, nb⟩
  obtain ⟨A1, d1, rfl, _⟩ := o.slice_
  have HA := Lib.hid (HA.out.below nb)
  have Q1 : Hid (Rd .i64 w1 A1 (dig D4 m)) := o.rd
  have hB := hB.trans (nb.mono hB.size)
  clear o nb
  go_wp2_with fail
  refine (CS2.out _).mono ?_
  rintro e w2 ⟨v, rfl, o, nb⟩
  obtain ⟨A2, d2, rfl, _⟩ := o.slice_
  have HA := Lib.hid (HA.out.below nb)
  have Q1 := Lib.hid (Q1.out.below nb)
  have Q2 : Hid (Rd .i64 w2 A2 (dig D4 2)) := o.rd
  have hB := hB.trans (nb.mono hB.size)
  clear o nb
  go_wp2_with fail
  refine (CM.out A1 A2 d1 d2 m 2 _ (by omega) (by omega) Q1.out Q2.out).mono ?_
  rintro e w3 ⟨v, rfl, o, nb⟩
  obtain ⟨A3, d3, rfl, _⟩ := o.slice_
  have HA := Lib.hid (HA.out.below nb)
  have Q1 := Lib.hid (Q1.out.below nb)
  have Q2 := Lib.hid (Q2.out.below nb)
  have Q3 : Hid (Rd .i64 w3 A3 (dig D4 (m * 2))) := o.rd
  have hB := hB.trans (nb.mono hB.size)
  clear o nb
  clear Q1 Q2
  go_wp2_with fail
  refine (CS1.out _).mono ?_
  rintro e w4 ⟨v, rfl, o, nb⟩
  obtain ⟨A4, d4, rfl, _⟩ := o.slice_
  have HA := Lib.hid (HA.out.below nb)
  have Q3 := Lib.hid (Q3.out.below nb)
  have Q4 : Hid (Rd .i64 w4 A4 (dig D4 1)) := o.rd
  have hB := hB.trans (nb.mono hB.size)
  clear o nb
  go_wp2_with fail
  refine (CA.out A3 A4 d3 d4 (m * 2) 1 _ (by omega) (by omega) Q3.out Q4.out).mono ?_
  rintro e w5 ⟨v, rfl, o, nb⟩
  obtain ⟨A5, d5, rfl, _⟩ := o.slice_
  have HA := Lib.hid (HA.out.below nb)
  have Q3 := Lib.hid (Q3.out.below nb)
  have Q4 := Lib.hid (Q4.out.below nb)
  have Q5 : Hid (Rd .i64 w5 A5 (dig D4 (m * 2 + 1))) := o.rd
  have hB := hB.trans (nb.mono hB.size)
  clear o nb
  clear Q3 Q4
  go_wp2_with fail
  refine (CPa.out _).mono ?_
  rintro e w6 ⟨v, rfl, o, nb⟩
  obtain ⟨A6, d6, rfl, _⟩ := o.slice_
  have HA := Lib.hid (HA.out.below nb)
  have Q5 := Lib.hid (Q5.out.below nb)
  have Q6 : Hid (Rd .i64 w6 A6 (dig D4 (10 ^ p10))) := o.rd
  have hB := hB.trans (nb.mono hB.size)
  clear o nb
  go_wp2_with fail
  refine (CPb.out _).mono ?_
  rintro e w7 ⟨v, rfl, o, nb⟩
  obtain ⟨A7, d7, rfl, _⟩ := o.slice_
  have HA := Lib.hid (HA.out.below nb)
  have Q5 := Lib.hid (Q5.out.below nb)
  have Q6 := Lib.hid (Q6.out.below nb)
  have Q7 : Hid (Rd .i64 w7 A7 (dig D4 (2 ^ q2))) := o.rd
  have hB := hB.trans (nb.mono hB.size)
  clear o nb
  go_wp2_with fail
  refine (CM.out A6 A7 d6 d7 _ _ _ (by omega) (by omega) Q6.out Q7.out).mono ?_
  rintro e w8 ⟨v, rfl, o, nb⟩
  obtain ⟨A8, d8, rfl, _⟩ := o.slice_
  have HA := Lib.hid (HA.out.below nb)
  have Q5 := Lib.hid (Q5.out.below nb)
  have Q6 := Lib.hid (Q6.out.below nb)
  have Q7 := Lib.hid (Q7.out.below nb)
  have Q8 : Hid (Rd .i64 w8 A8 (dig D4 (10 ^ p10 * 2 ^ q2))) := o.rd
  have hB := hB.trans (nb.mono hB.size)
  clear o nb
  clear Q6 Q7
  go_wp2_with fail
  refine (CM.out A A8 ca d8 _ _ _ (by omega) (by omega) HA.out Q8.out).mono ?_
  rintro e w9 ⟨v, rfl, o, nb⟩
  obtain ⟨A9, d9, rfl, _⟩ := o.slice_
  have HA := Lib.hid (HA.out.below nb)
  have Q5 := Lib.hid (Q5.out.below nb)
  have Q8 := Lib.hid (Q8.out.below nb)
  have Q9 : Hid (Rd .i64 w9 A9 (dig D4 (n * (10 ^ p10 * 2 ^ q2)))) := o.rd
  have hB := hB.trans (nb.mono hB.size)
  clear o nb
  clear Q8
  go_wp2_with fail
  refine (CPc.out _).mono ?_
  rintro e w10 ⟨v, rfl, o, nb⟩
  obtain ⟨A10, d10, rfl, _⟩ := o.slice_
  have HA := Lib.hid (HA.out.below nb)
  have Q5 := Lib.hid (Q5.out.below nb)
  have Q9 := Lib.hid (Q9.out.below nb)
  have Q10 : Hid (Rd .i64 w10 A10 (dig D4 (10 ^ q10))) := o.rd
  have hB := hB.trans (nb.mono hB.size)
  clear o nb
  go_wp2_with fail
  refine (CPd.out _).mono ?_
  rintro e w11 ⟨v, rfl, o, nb⟩
  obtain ⟨A11, d11, rfl, _⟩ := o.slice_
  have HA := Lib.hid (HA.out.below nb)
  have Q5 := Lib.hid (Q5.out.below nb)
  have Q9 := Lib.hid (Q9.out.below nb)
  have Q10 := Lib.hid (Q10.out.below nb)
  have Q11 : Hid (Rd .i64 w11 A11 (dig D4 (2 ^ p2))) := o.rd
  have hB := hB.trans (nb.mono hB.size)
  clear o nb
  go_wp2_with fail
  refine (CM.out A10 A11 d10 d11 _ _ _ (by omega) (by omega) Q10.out Q11.out).mono ?_
  rintro e w12 ⟨v, rfl, o, nb⟩
  obtain ⟨A12, d12, rfl, _⟩ := o.slice_
  have HA := Lib.hid (HA.out.below nb)
  have Q5 := Lib.hid (Q5.out.below nb)
  have Q9 := Lib.hid (Q9.out.below nb)
  have Q10 := Lib.hid (Q10.out.below nb)
  have Q11 := Lib.hid (Q11.out.below nb)
  have Q12 : Hid (Rd .i64 w12 A12 (dig D4 (10 ^ q10 * 2 ^ p2))) := o.rd
  have hB := hB.trans (nb.mono hB.size)
  clear o nb
  clear Q10 Q11
  go_wp2_with fail
  refine (CM.out A5 A12 d5 d12 _ _ _ (by omega) (by omega) Q5.out Q12.out).mono ?_
  rintro e w13 ⟨v, rfl, o, nb⟩
  obtain ⟨A13, d13, rfl, _⟩ := o.slice_
  have HA := Lib.hid (HA.out.below nb)
  have Q5 := Lib.hid (Q5.out.below nb)
  have Q9 := Lib.hid (Q9.out.below nb)
  have Q12 := Lib.hid (Q12.out.below nb)
  have Q13 : Hid (Rd .i64 w13 A13 (dig D4 ((m * 2 + 1) * (10 ^ q10 * 2 ^ p2)))) := o.rd
  have hB := hB.trans (nb.mono hB.size)
  clear o nb
  go_wp2_with fail
  refine (CC.out A9 A13 d9 d13 _ _ _ (by omega) (by omega) Q9.out Q13.out).mono ?_
  rintro e w14 ⟨rfl, nd, hm⟩
  have hB : Below w.heap.size w w14 := by rw [hm]; exact below_drewN' hB nd
  clear hm
  go_wp2
  go_ret
  exact ⟨rfl, hB⟩
end Go.Proofs.YtohickpkkldmdaaGreatDoor

namespace Go.Proofs.YtohickpkkldmdaaGreatDoor
open Go.RowKit Go.Lib

/-- The definition's Text: the four digits of a piece. -/
def quad (x : Nat) : List Nat := [x / 1000, x / 100 % 10, x / 10 % 10, x % 10]
theorem quad_lim {x : Nat} (h : x < 10000) : Lim 10 (quad x) := by
  intro y hy
  simp [quad] at hy
  omega
/-- The digits so far, the highest first. -/
structure RTxt (xs ds : List Nat) (k : Nat) : Prop where
  len : ds.length = 4 * (xs.length - k)
  lim : Lim 10 ds
  eq : vl 10 ds.reverse = vl D4 (xs.drop k)
theorem rtxt_start (xs : List Nat) : RTxt xs [] xs.length := ⟨by simp, lim_nil _, by rw [List.drop_length]; rfl⟩
theorem rtxt_step {xs ds : List Nat} {k : Nat} (h : RTxt xs ds (k + 1)) (hk : k < xs.length) (hx : Lim D4 xs) : RTxt xs (ds ++ quad xs[k]) k := by
  have hb := lim_get hx k hk
  refine ⟨?_, lim_append.2 ⟨h.lim, quad_lim hb⟩, ?_⟩
  · rw [List.length_append, h.len]
    show _ + 4 = _
    omega
  · rw [drop_get xs k hk, vl_cons, ← h.eq, List.reverse_append]
    obtain ⟨x, hxe⟩ : ∃ x, xs[k] = x := ⟨_, rfl⟩
    rw [hxe] at hb ⊢
    show vl 10 ((x % 10) :: (x / 10 % 10) :: (x / 100 % 10) :: (x / 1000) :: ds.reverse) = x + 10000 * vl 10 ds.reverse
    simp only [vl_cons]
    omega
/-- The noughts ahead. -/
theorem dropWhile_at {ds : List Nat} {k : Nat} (hk : k < ds.length) (h0 : ∀ j (hj : j < ds.length), j < k → ds[j] = 0) (hne : ds[k] ≠ 0) : ds.dropWhile (· == 0) = ds.drop k := by
  induction k generalizing ds with
  | zero =>
    cases ds with
    | nil => simp at hk
    | cons x l =>
      rw [List.dropWhile_cons, if_neg (by simpa using hne), List.drop_zero]
  | succ k ih =>
    cases ds with
    | nil => simp at hk
    | cons x l =>
      have hx : x = 0 := h0 0 (by simp) (by omega)
      rw [List.dropWhile_cons, if_pos (by simpa using hx), List.drop_succ_cons]
      exact ih (by simpa using hk) (fun j hj h => h0 (j + 1) (by simpa using hj) (by omega)) hne
theorem vl_pos_ex {ds : List Nat} (h : ∀ j (hj : j < ds.length), ds[j] = 0) : vl 10 ds.reverse = 0 := by
  have : ds = List.replicate ds.length 0 := by
    apply List.ext_getElem
    · simp
    · intro i h1 h2; rw [List.getElem_replicate]; exact h i h1
  rw [this, List.reverse_replicate, vl_zeros]
theorem rtxt_end {xs ds : List Nat} {k : Nat} (h : RTxt xs ds 0) (hn : vl D4 xs ≠ 0) (hk : k < ds.length) (h0 : ∀ j (hj : j < ds.length), j < k → ds[j] = 0) (hne : ds[k] ≠ 0) : decs (vl D4 xs) = (ds.drop k).map db := by
  have e := h.eq
  rw [List.drop_zero] at e
  rw [← e, decs_pv (fun x hx => h.lim x (List.mem_reverse.1 hx)) (by rw [e]; exact hn), List.reverse_reverse, dropWhile_at hk h0 hne]
/-- The definition's Parse: pieces of four digits from the end. -/
structure RPar (l : List UInt8) (ds : List Nat) (m : Nat) : Prop where
  lim : Lim D4 ds
  eq : vl D4 ds = pv (l.drop m)
  pow : 0 < m → 10 ^ (l.length - m) = D4 ^ ds.length
theorem rpar_start (l : List UInt8) : RPar l [] l.length := ⟨lim_nil _, by rw [List.drop_length]; rfl, fun _ => by simp⟩
theorem pv_lt4 {l : List UInt8} (h : Dec l) (hl : l.length ≤ 4) : pv l < 10000 := by
  have h1 := pv_lt h
  have h2 : 10 ^ l.length ≤ 10 ^ 4 := Nat.pow_le_pow_right (by omega) hl
  exact Nat.lt_of_lt_of_le h1 h2
theorem drop_split {l : List UInt8} {m m' : Nat} (h : m' ≤ m) : l.drop m' = (l.drop m').take (m - m') ++ l.drop m := by
  have := (List.take_append_drop (m - m') (l.drop m')).symm
  rwa [List.drop_drop, show m' + (m - m') = m by omega] at this
theorem rpar_step {l : List UInt8} {ds : List Nat} {m m' : Nat} (h : RPar l ds m) (hd : Dec l) (hm0 : 0 < m) (hm : m ≤ l.length) (he : m' = m - 4) : RPar l (ds ++ [pv ((l.drop m').take (m - m'))]) m' := by
  have hp := h.pow hm0
  refine ⟨lim_append.2 ⟨h.lim, lim_one.2 (pv_lt4 (dec_take (dec_drop hd _) _) (by rw [List.length_take]; omega))⟩, ?_, ?_⟩
  · rw [vl_snoc, h.eq, ← hp, drop_split (show m' ≤ m by omega), pv_append, List.length_drop, Nat.mul_comm]
    have e : (((l.drop m').take (m - m') ++ l.drop m).take (m - m')) = (l.drop m').take (m - m') := by
      rw [List.take_append_of_le_length (by rw [List.length_take, List.length_drop]; omega), List.take_take, Nat.min_self]
    rw [e]
    omega
  · intro h0
    rw [List.length_append, List.length_singleton, Nat.pow_succ, ← hp, show l.length - m' = (l.length - m) + 4 by omega, Nat.pow_add]
theorem rpar_end {l : List UInt8} {ds : List Nat} (h : RPar l ds 0) : vl D4 ds = pv l := by
  have := h.eq
  rwa [List.drop_zero] at this

theorem cells_four (w : World) (a b c d : Value) (t : TypeId) : ∀ j u, [a, b, c, d][j]? = some u → (w.alloc (.cells #[a, b, c, d] t)).cell? ((⟨w.heap.size, 0, none⟩ : Addr).add j) = some u :=
  (World.ownsRow_lit (base := w.heap.size) (e := t) (size := 1) w #[a, b, c, d] 4 (Nat.le_refl _) (by decide) rfl).cells (g := w.heap.size) rfl
theorem quad_cells {x : Nat} {a b c d : Int} (ha : a = ((48 + x / 1000 : Nat) : Int)) (hb : b = ((48 + x / 100 % 10 : Nat) : Int)) (hc : c = ((48 + x / 10 % 10 : Nat) : Int)) (hd : d = ((48 + x % 10 : Nat) : Int)) :
    [Value.int .u8 a, .int .u8 b, .int .u8 c, .int .u8 d] = nums .u8 (d8 (quad x)) := by
  subst ha hb hc hd
  rfl
theorem d8_app (a b : List Nat) : d8 (a ++ b) = d8 a ++ d8 b := by simp [d8]
theorem Own.more {κ : IntKind} {w : World} {B : Nat} {t : TypeId} {v : Value} {xs ys : List Nat} {k m : Nat} {cs : List Value} (h : w.ownsRow B t 1 v (k + m) (nums κ xs ++ cs)) (hc : cs = nums κ ys) (hk : k = xs.length) (hm : m = ys.length) : Own κ w B t v (xs ++ ys) := by
  subst hc
  exact Own.append h hk hm
theorem fwd_bytes {ds : List Nat} (h : Lim 10 ds) : nums .u8 (d8 ds) = (ds.map db).map fun x => Value.int .u8 x.toNat := by
  have := rev_bytes (ds := ds.reverse) (fun x hx => h x (List.mem_reverse.1 hx))
  rw [List.reverse_reverse] at this
  rw [← this, d8, d8, List.map_reverse, List.reverse_reverse]
/-- 'string(out[k:])'. -/
theorem conv_from (W : World) (B g cap k : Nat) (ds : List Nat) (hl : Lim 10 ds) (hO : Own .u8 W B 5 (.slice (some ⟨g, 0, none⟩) ds.length cap) (d8 ds)) (hk : k ≤ ds.length) :
    (convert 83 9 (.slice (some ⟨g, k, none⟩) (ds.length - k) (cap - k))).run Tryz.prog W = .ok (.string ⟨((ds.drop k).map db).toArray⟩) W := by
  have e : ds.length - k = ((ds.drop k).map db).length := by simp
  rw [e]
  refine run_convert_bytes_back (P := Tryz.prog) W 83 9 5 ⟨g, k, none⟩ (cap - k) ((ds.drop k).map db) Tryz.underlying83 Tryz.underlying5 Tryz.underlying9 (fun j hj => ?_)
  rw [List.length_map, List.length_drop] at hj
  have hc := hO.cell (k + j) (by rw [d8_len]; omega)
  rw [Addr.add_lit, hc]
  have h1 : (d8 ds)[k + j]'(by rw [d8_len]; omega) = 48 + ds[k + j]'(by omega) := by simp [d8]
  have h2 : ((ds.drop k).map db)[j]'(by simp; omega) = db (ds[k + j]'(by omega)) := by simp
  rw [h1, h2, db_toNat (lim_get hl (k + j) (by omega))]

set_option maxRecDepth 100000 in
set_option maxHeartbeats 4000000 in
theorem rtext_any (A : Option Addr) (ca : Nat) (xs : List Nat) (w : World) (hx : Norm D4 xs) (hxn : xs.length ≤ 100000) (hra : Rd .i64 w A xs) :
    Calls Tryz.prog 100 #[.slice A xs.length ca] w fun e w' => e = .returned (.string ⟨(decs (vl D4 xs)).toArray⟩) ∧ Below w.heap.size w w' := by
  by_cases hx0 : xs = []
  · have hb : ((xs.length : Int) == 0) = true := by rw [hx0]; rfl
    have HD := Lib.hid (show decs (vl D4 xs) = [48] by rw [hx0]; rfl)
    clear hx0 hx hra
    go_enter Tryz.func100, Tryz.ntmps100
    go_wp2
    go_ret
    exact ⟨by rw [HD.out]; rfl, Below.refl _ _⟩
  obtain ⟨i0, hi, hz0, hz1, hz2⟩ := info_parts info_u8
  have hlen := List.length_pos_iff.2 hx0
  have hb : ((xs.length : Int) == 0) = false := by rw [beq_eq_false_iff_ne]; omega
  have hpos := vl_top (B := D4) hx.2 hx0
  have hpp : 0 < D4 ^ (xs.length - 1) := Nat.pow_pos (by decide)
  have HNZ := Lib.hid (show vl D4 xs ≠ 0 by omega)
  have hL := hx.1
  clear hx hx0 hpos hpp
  go_enter Tryz.func100, Tryz.ntmps100
  go_wp2
  go_loopw [3, 4] (fun v i wr => ∃ (k : Nat) (ds : List Nat), k ≤ xs.length ∧ i = .int .i64 ((k : Int) - 1) ∧ Own .u8 wr w.heap.size 5 v (d8 ds) ∧ RTxt xs ds k ∧ Below w.heap.size w wr) (fun _ i _ => (RowKit.intOf i + 1).toNat)
  case atStart => exact ⟨xs.length, [], Nat.le_refl _, rfl, Own.nil _ _ _, rtxt_start xs, Below.refl _ _⟩
  case round =>
    obtain ⟨k, ds, hk, rfl, hO, hR, hB⟩ := hrel
    obtain ⟨A3, c3, rfl, hc3⟩ := hO.slice
    have hdl := hR.len
    rw [d8_len] at hO hc3 ⊢
    rcases k with _ | k
    · have hdp : 0 < ds.length := by omega
      obtain ⟨g, rfl, hg⟩ := hO.addr (by rw [d8_len]; exact hdp)
      have HR := Lib.hid hR
      have HO := Lib.hid hO
      have hlm := hR.lim
      have hdb4 : ds.length ≤ 400000 := by omega
      clear hR hO hdl
      go_wp2
      go_loop [6] (fun q => ∃ m : Nat, m < ds.length ∧ q = .int .i64 m ∧ ∀ j (hj : j < ds.length), j < m → ds[j] = 0) (fun q => ds.length - (RowKit.intOf q).toNat)
      case atStart => exact ⟨0, hdp, rfl, fun j _ h => absurd h (by omega)⟩
      case round =>
        obtain ⟨m, hm, rfl, h0⟩ := hrel
        obtain ⟨d, hde⟩ : ∃ d, ds[m] = d := ⟨_, rfl⟩
        have hd10 : d < 10 := by rw [← hde]; exact lim_get hlm m hm
        have hc := HO.out.cell m (by rw [d8_len]; exact hm)
        have he : (d8 ds)[m]'(by rw [d8_len]; exact hm) = 48 + d := by rw [← hde]; simp [d8]
        rw [he] at hc
        have HDE := Lib.hid hde
        have H0 := Lib.hid h0
        clear hde he h0
        by_cases hd0 : d = 0
        · subst hd0
          have hm1 : m + 1 < ds.length := by
            rcases Nat.lt_or_ge (m + 1) ds.length with h | h
            · exact h
            · have hz := vl_pos_ex (ds := ds) (fun j hj => by
                by_cases e : j = m
                · subst e; exact HDE.out
                · exact H0.out j hj (by omega))
              have e := HR.out.eq
              rw [List.drop_zero, hz] at e
              exact absurd e.symm HNZ.out
          go_wp2
          go_round
          case rel => exact ⟨m + 1, hm1, by go_num, fun j hj h => by
            by_cases e : j = m
            · subst e; exact HDE.out
            · exact H0.out j hj (by omega)⟩
          case measure => simp [RowKit.intOf]; omega
        · have hdb : (((48 + d : Nat) : Int) == 48) = false := by rw [beq_eq_false_iff_ne]; omega
          have hdb2 : (48 + (d : Int) == 48) = false := by rw [beq_eq_false_iff_ne]; omega
          have HE := Lib.hid (show decs (vl D4 xs) = List.drop m (List.map db ds) by rw [rtxt_end HR.out HNZ.out hm H0.out (by rw [HDE.out]; exact hd0), List.map_drop])
          have hcv := conv_from wr w.heap.size g c3 m ds hlm HO.out (by omega)
          have hcm : ¬ c3 = m := by omega
          clear HO
          go_wp2
          go_ret
          exact ⟨by rw [HE.out]; rfl, hB⟩
    · have hlx : k < xs.length := hk
      obtain ⟨g, o, rfl, hc⟩ := (hra.below hB) k hlx
      obtain ⟨x, hxe, hxk⟩ := lim4 hL k hlx
      rw [hxe] at hc
      have hS := rtxt_step hR hlx hL
      rw [hxe] at hS
      have HS := Lib.hid hS
      have hown := hO.row (n := ds.length) (d8_len ds)
      have hsz := hB.size
      have hdb : ds.length ≤ 400000 := by omega
      have hw1 : IntKind.u8.wrap (48 + (x : Int) / 1000) = 48 + (x : Int) / 1000 := IntWalk.u8_in _ (by omega)
      have hw2 : IntKind.u8.wrap (48 + (x : Int) / 100 % 10) = 48 + (x : Int) / 100 % 10 := IntWalk.u8_in _ (by omega)
      have hw3 : IntKind.u8.wrap (48 + (x : Int) / 10 % 10) = 48 + (x : Int) / 10 % 10 := IntWalk.u8_in _ (by omega)
      have hw4 : IntKind.u8.wrap (48 + (x : Int) % 10) = 48 + (x : Int) % 10 := IntWalk.u8_in _ (by omega)
      clear hR hO hS hxe hdl hc3
      rw [show ((k + 1 : Nat) : Int) - 1 = (k : Int) by omega]
      go_wp2_with (at_builtin; refine wpList_append_own _ rfl _ _ 83 rfl w.heap.size 5 i0 (.int .u8 0) 1 1 Tryz.underlying83 hi hz0 hz1 hz2 rfl (by decide) _ _ _ rfl (hown.alloc _) ⟨wr.heap.size, 0, none⟩ 4 4 _ rfl rfl (cells_four _ _ _ _ _ _) ?c2 ?c3 ?c4 ?c5 ?_)
      case c2 => simp [Value.oneCell']
      case c3 => unfold maxLen; omega
      case c4 => omega
      case c5 => first | omega | (simp; omega)
      intro v' w4 hown' hgrow _
      have hB4 : Below w.heap.size w w4 := (hB.alloc hsz _).grown hgrow (by simp; omega) (fun z e => (hown.lt z e).1)
      have hO4 := Own.more (ys := d8 (quad x)) hown' (quad_cells (by omega) (by omega) (by omega) (by omega)) (d8_len ds).symm rfl
      rw [← d8_app] at hO4
      have HO1 := Lib.hid hO4
      clear hown hown' hgrow hO4 hw1 hw2 hw3 hw4
      go_wp2
      go_roundw
      case rel => exact ⟨k, ds ++ quad x, by omega, rfl, HO1.out, HS.out, hB4⟩
      case measure => simp [RowKit.intOf]
end Go.Proofs.YtohickpkkldmdaaGreatDoor

namespace Go.Proofs.YtohickpkkldmdaaGreatDoor
open Go.RowKit Go.Lib

/-- What the definition's Parse answers. -/
noncomputable def rparRes (s : ByteArray) : List Nat := if isDec s = true then dig D4 (pv s.data.toList) else []
/-- How it ends. -/
def RParEnd (f : Bool) (zs : List Nat) (w : World) (e : Ending) (w' : World) : Prop := ∃ v, e = .returned (.tuple #[v, .bool f]) ∧ Own .i64 w' w.heap.size 3 v zs ∧ Below w.heap.size w w'
theorem pv_take_more {l : List UInt8} {m' j : Nat} (hj : j < l.length) (h : m' ≤ j) : pv ((l.drop m').take (j + 1 - m')) = pv ((l.drop m').take (j - m')) * 10 + ((l[j]).toNat - 48) := by
  have h1 : j - m' < (l.drop m').length := by rw [List.length_drop]; omega
  rw [show j + 1 - m' = (j - m') + 1 by omega, List.take_succ_eq_append_getElem h1, pv_snoc]
  have h2 : (l.drop m')[j - m'] = l[j] := by
    rw [List.getElem_drop]
    congr 1
    omega
  rw [h2]

set_option maxRecDepth 100000 in
set_option maxHeartbeats 4000000 in
theorem rparse_any (s : ByteArray) (w : World) (hs : s.size ≤ 4194304) :
    Calls Tryz.prog 149 #[.string s] w (RParEnd (isDec s) (rparRes s) w) := by
  by_cases h0 : s.size = 0
  · have HR := Lib.hid (show isDec s = false from isDec_no.2 (fun h => by omega))
    have he : s.toList = [] := by rw [Lib.toList_data]; exact ba_nil h0
    have he2 : s.toList.isEmpty = true := by rw [he]; rfl
    clear h0
    go_enter Tryz.func149, Tryz.ntmps149
    go_wp2
    go_ret2
    exact ⟨_, by rw [HR.out]; rfl, by rw [rparRes, if_neg (by rw [HR.out]; decide)]; exact Own.nil _ _ _, Below.refl _ _⟩
  obtain ⟨i0, hi, hz0, hz1, hz2⟩ := info_parts info_i64
  have he2 : s.toList.isEmpty = false := by
    rw [Lib.toList_data]
    cases h : s.data.toList with
    | nil => exact absurd (by rw [← ba_len, h]; rfl) h0
    | cons _ _ => rfl
  have he3 : ¬ s.toList = [] := by
    intro e; rw [e] at he2; cases he2
  have hpos : 0 < s.size := by omega
  clear h0
  go_enter Tryz.func149, Tryz.ntmps149
  go_wp2
  go_loop [4] (fun i => ∃ k : Nat, k ≤ s.size ∧ i = .int .i64 k ∧ Dec (s.data.toList.take k)) (fun i => s.size - (RowKit.intOf i).toNat)
  case atStart => exact ⟨0, Nat.zero_le _, rfl, fun _ h => by simp at h⟩
  case round =>
    obtain ⟨k, hk, rfl, hd⟩ := hrel
    by_cases hlt : k < s.size
    · by_cases h1 : s[k].toNat < 48
      · have HR := Lib.hid (show isDec s = false from isDec_no.2 (fun h => by have := (dec_at h.2 k hlt).1; omega))
        clear hd
        go_wp2
        go_ret2
        exact ⟨_, by rw [HR.out]; rfl, by rw [rparRes, if_neg (by rw [HR.out]; decide)]; exact Own.nil _ _ _, Below.refl _ _⟩
      · by_cases h2 : 57 < s[k].toNat
        · have HR := Lib.hid (show isDec s = false from isDec_no.2 (fun h => by have := (dec_at h.2 k hlt).2; omega))
          clear hd
          go_wp2
          go_ret2
          exact ⟨_, by rw [HR.out]; rfl, by rw [rparRes, if_neg (by rw [HR.out]; decide)]; exact Own.nil _ _ _, Below.refl _ _⟩
        · have hd2 := dec_snoc hd (show 48 ≤ s[k].toNat ∧ s[k].toNat ≤ 57 by omega)
          rw [← ba_take_snoc s k hlt] at hd2
          have HD := Lib.hid hd2
          clear hd hd2
          go_wp2
          go_round
          case rel => exact ⟨k + 1, hlt, by go_num, HD.out⟩
          case measure => simp [RowKit.intOf]; omega
    · obtain rfl : k = s.size := by omega
      rw [← ba_len, List.take_length] at hd
      have HR := Lib.hid (isDec_iff.2 ⟨hpos, hd⟩)
      have HDEC := Lib.hid hd
      clear hd he2 he3 hlt hk
      go_wp2
      go_loopw [5, 6] (fun v q wr => ∃ (m : Nat) (E : Int) (ds : List Nat), q = .int .i64 E ∧ ((0 < m ∧ E = m) ∨ (m = 0 ∧ -4 < E ∧ E ≤ 0)) ∧ m ≤ s.size ∧ ds.length ≤ s.size - m ∧ Own .i64 wr w.heap.size 3 v ds ∧ RPar s.data.toList ds m ∧ Below w.heap.size w wr) (fun _ q _ => (RowKit.intOf q).toNat)
      case atStart => exact ⟨s.size, _, [], rfl, .inl ⟨hpos, rfl⟩, Nat.le_refl _, Nat.zero_le _, Own.nil _ _ _, by have := rpar_start s.data.toList; rwa [ba_len] at this, Below.refl _ _⟩
      case round =>
        obtain ⟨m, E, ds, rfl, hE, hms, hdl, hO, hP, hB⟩ := hrel
        obtain ⟨A5, c5, rfl, _⟩ := hO.slice
        by_cases hm : 0 < m
        · obtain rfl : E = (m : Int) := by omega
          obtain ⟨m', hm'⟩ : ∃ m', m - 4 = m' := ⟨_, rfl⟩
          have hmx : max ((m : Int) - 4) 0 = (m' : Int) := by omega
          have hmi2 : (if (m : Int) - 4 < 0 then (0 : Int) else (m : Int) - 4) = (m' : Int) := by split <;> omega
          have hmi3 : (if (0 : Int) ≤ (m : Int) - 4 then (m : Int) - 4 else (0 : Int)) = (m' : Int) := by split <;> omega
          have hm4 : m' ≤ m := by omega
          have hm5 : m ≤ m' + 4 := by omega
          have HST := Lib.hid (rpar_step hP HDEC.out hm (by rw [ba_len]; exact hms) hm'.symm)
          have HM := Lib.hid hm'
          have hown := hO.row (n := ds.length) rfl
          have HOWN := Lib.hid hown
          have hsz := hB.size
          clear hP hO hE hm' hown
          go_wp2
          clear hmx hmi2 hmi3
          obtain ⟨wo, rfl⟩ : ∃ wo : World, wo = wr := ⟨wr, rfl⟩
          go_loop [7, 8] (fun a i => ∃ j : Nat, m' ≤ j ∧ j ≤ m ∧ i = .int .i64 j ∧ a = .int .i64 (pv ((s.data.toList.drop m').take (j - m')) : Nat)) (fun _ i => m - (RowKit.intOf i).toNat)
          case atStart => exact ⟨m', Nat.le_refl _, hm4, rfl, by rw [Nat.sub_self]; rfl⟩
          case round =>
            obtain ⟨j, hj1, hj2, rfl, rfl⟩ := hrel
            have hvl := pv_lt4 (dec_take (dec_drop HDEC.out m') (j - m')) (by rw [List.length_take]; omega)
            by_cases hjm : j < m
            · have hjs : j < s.size := by omega
              obtain ⟨c1, c2⟩ := dec_at HDEC.out j hjs
              have hmore := pv_take_more (l := s.data.toList) (by rw [ba_len]; exact hjs) hj1
              have hsj : s.data.toList[j]'(by rw [ba_len]; exact hjs) = s[j] := rfl
              rw [hsj] at hmore
              obtain ⟨V, hV⟩ : ∃ V, pv ((s.data.toList.drop m').take (j - m')) = V := ⟨_, rfl⟩
              rw [hV] at hvl hmore
              rw [hV]
              have HMORE := Lib.hid hmore
              clear hmore hV hsj
              go_wp2
              go_round
              case rel => exact ⟨j + 1, by omega, hjm, by go_num, by rw [HMORE.out]; exact vint (by omega)⟩
              case measure => simp [RowKit.intOf]; omega
            · obtain rfl : j = m := by omega
              obtain ⟨V, hV⟩ : ∃ V, pv ((s.data.toList.drop m').take (j - m')) = V := ⟨_, rfl⟩
              have hst := HST.out
              rw [hV] at hst hvl
              rw [hV]
              have HST2 := Lib.hid hst
              have hown := HOWN.out
              have hmm := HM.out
              have hmn : m' ≤ j - 1 := by omega
              have hE2 : ((0 < m' ∧ (j : Int) - 4 = m') ∨ (m' = 0 ∧ -4 < (j : Int) - 4 ∧ (j : Int) - 4 ≤ 0)) := by omega
              have HE2 := Lib.hid hE2
              clear hst hV hmm hE2 HST HOWN hj1 hj2 hjm
              go_wp2_with (at_builtin; refine wpList_append_own _ rfl _ _ 85 rfl w.heap.size 3 i0 (.int .i64 0) 1 8 Tryz.underlying85 hi hz0 hz1 hz2 rfl (by decide) _ _ _ rfl (hown.alloc _) ⟨wo.heap.size, 0, none⟩ 1 1 [.int .i64 (V : Nat)] rfl rfl (cell_one_new _ _ _) ?c2 ?c3 ?c4 ?c5 ?_)
              case c2 => simp [Value.oneCell']
              case c3 => unfold maxLen; omega
              case c4 => omega
              case c5 => first | omega | (simp; omega)
              intro v' w4 hown' hgrow _
              have hB4 : Below w.heap.size w w4 := (hB.alloc hsz _).grown hgrow (by simp; omega) (fun z e => (hown.lt z e).1)
              have HO1 := Lib.hid (Own.snoc hown' rfl)
              clear hown hown' hgrow
              go_wp2
              go_roundw
              case rel => exact ⟨m', _, _, rfl, HE2.out, by omega, by rw [List.length_append, List.length_singleton]; omega, HO1.out, HST2.out, hB4⟩
              case measure => simp [RowKit.intOf]; omega
        · obtain rfl : m = 0 := by omega
          have hE0 : E ≤ 0 := by omega
          have he := rpar_end hP
          have cT := rtrim_own _ _ ds wr hP.lim (by omega) hO
          rw [he] at cT
          have CT := Lib.hid cT
          clear cT hO hP he hE
          go_wp2_with fail
          refine CT.out.mono ?_
          rintro e w' ⟨⟨v', rfl, hO7⟩, rfl⟩
          have HO7 := Lib.hid hO7
          clear hO7 CT
          go_wp2
          go_ret2
          exact ⟨_, by rw [HR.out]; rfl, by rw [rparRes, if_pos HR.out]; exact HO7.out, hB⟩
end Go.Proofs.YtohickpkkldmdaaGreatDoor

namespace Go.Proofs.YtohickpkkldmdaaGreatDoor
open Go.RowKit Go.Lib

theorem cmpZ_scale {a b k : Nat} (hk : 0 < k) : cmpZ (a * k) (b * k) = cmpZ a b := by
  rcases Nat.lt_trichotomy a b with h | h | h
  · rw [cmpZ_lt h, cmpZ_lt (Nat.mul_lt_mul_of_pos_right h hk)]
  · subst h; rw [cmpZ_eq rfl, cmpZ_eq rfl]
  · rw [cmpZ_gt h, cmpZ_gt (Nat.mul_lt_mul_of_pos_right h hk)]
/-- The middle behind the float of rung q, times D. -/
def mid2 (D q : Nat) : Nat := (V q + V (q + 1)) * D
theorem mid2_lt {D q q' : Nat} (hD : 0 < D) (h : q < q') : mid2 D q < mid2 D q' := by
  unfold mid2
  refine Nat.mul_lt_mul_of_pos_right ?_ hD
  have h1 := V_lt h
  have h2 := V_lt (show q + 1 < q' + 1 by omega)
  omega
/-- What 'above' compares. -/
theorem above_mid (n r : Nat) (x : Int) (hr : r < 9218868437227405312) : cmpZ (abL n x r) (abR x r) = cmpZ (2 * (n * 10 ^ x.toNat) * S1074) (mid2 (10 ^ (-x).toNat) r) := by
  obtain ⟨c, hc⟩ : ∃ c : Nat, c = 1074 := ⟨_, rfl⟩
  have he := expF_bd hr
  obtain ⟨t, ht⟩ : ∃ t : Nat, t = 1075 - (-(expF r - 1)).toNat := ⟨_, rfl⟩
  rw [← cmpZ_scale (k := 2 ^ t) (Nat.pow_pos (by omega))]
  have e1 : abL n x r * 2 ^ t = 2 * (n * 10 ^ x.toNat) * S1074 := by
    rw [S_eq c hc]
    have e : 2 ^ (-(expF r - 1)).toNat * 2 ^ t = 2 * 2 ^ c := by
      rw [← Nat.pow_add, ← Nat.pow_succ', show (-(expF r - 1)).toNat + t = c.succ by omega]
    unfold abL
    calc n * (10 ^ x.toNat * 2 ^ (-(expF r - 1)).toNat) * 2 ^ t = n * 10 ^ x.toNat * (2 ^ (-(expF r - 1)).toNat * 2 ^ t) := by ac_rfl
      _ = n * 10 ^ x.toNat * (2 * 2 ^ c) := by rw [e]
      _ = 2 * (n * 10 ^ x.toNat) * 2 ^ c := by ac_rfl
  have e2 : abR x r * 2 ^ t = mid2 (10 ^ (-x).toNat) r := by
    unfold mid2
    rw [V_succ]
    have hU : U r = 2 ^ (expF r - -1074).toNat := by
      unfold U expF
      split
      · rw [show r / 4503599627370496 - 1 = 0 by omega, show ((-1074 : Int) - -1074).toNat = 0 by omega]
      · congr 1
        omega
    have hV : V r = manF r * U r := by rw [← val_V, Nat.shiftLeft_eq, hU]
    have e : 2 ^ (expF r - 1).toNat * 2 ^ t = U r := by
      rw [hU, ← Nat.pow_add]
      congr 1
      omega
    unfold abR
    rw [hV]
    generalize U r = u at *
    generalize manF r = m at *
    generalize 10 ^ (-x).toNat = D at *
    generalize 2 ^ (expF r - 1).toNat = z at *
    generalize 2 ^ t = y at *
    calc (m * 2 + 1) * (D * z) * y = (m * 2 + 1) * (z * y) * D := by ac_rfl
      _ = (m * 2 + 1) * u * D := by rw [e]
      _ = (m * u + (m * u + u)) * D := by
        congr 1
        rw [Nat.add_mul, Nat.mul_right_comm, Nat.one_mul]
        omega
  rw [e1, e2]
/-- Beyond the powers that the definition looks at. -/
theorem near_far_low {n c t : Nat} (hc : 1349 ≤ c) (ht : t = 1024) (hn : n < 10 ^ t) : Near (2 * n * S1074) (10 ^ c) 0 := by
  refine ⟨fun q e => absurd e (by omega), fun q e => absurd e (by omega), fun _ => ?_, fun _ _ => rfl, by omega⟩
  obtain ⟨f, hf⟩ : ∃ f : Nat, f = 1074 := ⟨_, rfl⟩
  rw [S_eq f hf, show V 0 + V (0 + 1) = 1 by decide, Nat.one_mul]
  have h4 := big325 325 (f + 1) rfl (by omega)
  have h5 : 10 ^ (t + 325) ≤ 10 ^ c := Nat.pow_le_pow_right (by omega) (by omega)
  refine Nat.le_trans ?_ h5
  rw [Nat.pow_add]
  have h7 : 2 * n * 2 ^ f ≤ 2 * 10 ^ t * 2 ^ f := Nat.mul_le_mul_right _ (by omega)
  have h9 : 2 * 10 ^ t * 2 ^ f = 10 ^ t * 2 ^ (f + 1) := by rw [Nat.pow_succ, Nat.mul_comm 2, Nat.mul_assoc, Nat.mul_comm 2]
  exact Nat.le_trans h7 (by rw [h9]; exact Nat.mul_le_mul_left _ h4)
theorem near_far_top {n c : Nat} (hn : 0 < n) (hc : 310 ≤ c) : Near (2 * (n * 10 ^ c) * S1074) 1 9218868437227405312 := by
  refine ⟨fun q hq => ?_, fun _ _ _ => rfl, fun h => absurd h (by omega), fun h => absurd h (by omega), Nat.le_refl _⟩
  obtain ⟨f, hf⟩ : ∃ f : Nat, f = 1074 := ⟨_, rfl⟩
  obtain ⟨d, hd⟩ : ∃ d : Nat, d = 1025 := ⟨_, rfl⟩
  obtain ⟨c0, hc0⟩ : ∃ c0 : Nat, c0 = 310 := ⟨_, rfl⟩
  have h4 := big310 c0 d hc0 hd
  have h5 := V_inf (d - 51 + f - 2) (by omega)
  have h6 : 4503599627370496 * 2 ^ (d - 51 + f - 2) = 2 ^ (d - 1) * 2 ^ f := by
    rw [show (4503599627370496 : Nat) = 2 ^ 52 by decide, ← Nat.pow_add, ← Nat.pow_add, show 52 + (d - 51 + f - 2) = d - 1 + f by omega]
  have h7 : 2 ^ d = 2 * 2 ^ (d - 1) := by rw [← Nat.pow_succ', show (d - 1).succ = d by omega]
  have h9 : 10 ^ c0 ≤ 10 ^ c := Nat.pow_le_pow_right (by omega) (by omega)
  have h8 : 2 * (1 * 2 ^ (d - 1)) * 2 ^ f ≤ 2 * (n * 10 ^ c) * 2 ^ f := Nat.mul_le_mul_right _ (Nat.mul_le_mul_left _ (Nat.mul_le_mul hn (by omega)))
  rw [Nat.one_mul, Nat.mul_assoc] at h8
  have h2 := V_lt (show q < 9218868437227405312 by omega)
  rw [S_eq f hf, Nat.mul_one]
  rw [h5, h6] at h2 ⊢
  generalize 2 ^ (d - 1) * 2 ^ f = z at *
  omega
set_option maxRecDepth 100000 in
set_option maxHeartbeats 1000000 in
theorem rread_no (s : ByteArray) (x : Int) (w : World) (hs : s.size ≤ 4194304) (hd : isDec s = false) :
    Calls Tryz.prog 103 #[.string s, .int .i64 x] w fun e w' => e = .returned (.tuple #[.float .f64 0, .int .i64 30]) ∧ Below w.heap.size w w' := by
  have cP := rparse_any s w hs
  rw [hd] at cP
  have CP := Lib.hid cP
  clear cP hd
  go_enter Tryz.func103, Tryz.ntmps103
  go_wp2_with fail
  refine CP.out.mono ?_
  rintro e w1 ⟨v, rfl, o, nb⟩
  obtain ⟨A1, d1, rfl, _⟩ := o.slice_
  clear o
  go_wp2
  go_ret2
  exact ⟨rfl, nb⟩
set_option maxRecDepth 100000 in
set_option maxHeartbeats 1000000 in
theorem rread_long (s : ByteArray) (x : Int) (w : World) (hs : s.size ≤ 4194304) (hs2 : 1024 < s.size) (hd : isDec s = true) :
    Calls Tryz.prog 103 #[.string s, .int .i64 x] w fun e w' => e = .returned (.tuple #[.float .f64 0, .int .i64 3]) ∧ Below w.heap.size w w' := by
  have cP := rparse_any s w hs
  rw [hd] at cP
  have CP := Lib.hid cP
  clear cP hd
  go_enter Tryz.func103, Tryz.ntmps103
  go_wp2_with fail
  refine CP.out.mono ?_
  rintro e w1 ⟨v, rfl, o, nb⟩
  obtain ⟨A1, d1, rfl, _⟩ := o.slice_
  clear o
  go_wp2
  go_ret2
  exact ⟨rfl, nb⟩
def RRead (w : World) (X D : Nat) (e : Ending) (w' : World) : Prop := ∃ r, e = .returned (.tuple #[.float .f64 r, .int .i64 0]) ∧ Hid (Near X D r) ∧ Below w.heap.size w w'
set_option maxRecDepth 100000 in
set_option maxHeartbeats 2000000 in
theorem rread_far (s : ByteArray) (x : Int) (w : World) (hs : s.size ≤ 1024) (hd : isDec s = true) (hx : pv s.data.toList = 0 ∨ x < -1500 ∨ 400 < x) :
    Calls Tryz.prog 103 #[.string s, .int .i64 x] w (RRead w (2 * (pv s.data.toList * 10 ^ x.toNat) * S1074) (10 ^ (-x).toNat)) := by
  have cP := rparse_any s w (by omega)
  have hn := pv_lt (isDec_iff.1 hd).2
  rw [ba_len] at hn
  rw [rparRes, hd, if_pos rfl] at cP
  obtain ⟨n, hne⟩ : ∃ n, pv s.data.toList = n := ⟨_, rfl⟩
  rw [hne] at cP hn hx
  rw [hne]
  have CP := Lib.hid cP
  have hfi : ∀ W : World, (callFunc 16 #[.int .u64 9218868437227405312]).run Tryz.prog W = .ok (.value (.float .f64 9218868437227405312)) W := fun W => run_f64from 9218868437227405312 W
  by_cases h0 : n = 0
  · subst h0
    have hl : (((dig D4 0).length : Nat) : Int) = 0 := rfl
    clear cP hd hne hx
    go_enter Tryz.func103, Tryz.ntmps103
    go_wp2_with fail
    refine CP.out.mono ?_
    rintro e w1 ⟨v, rfl, o, nb⟩
    obtain ⟨A1, d1, rfl, _⟩ := o.slice_
    clear o
    go_wp2
    go_ret2
    refine ⟨0, rfl, Lib.hid ?_, nb⟩
    rw [Nat.zero_mul, Nat.mul_zero, Nat.zero_mul]
    exact near_zero (Nat.pow_pos (by omega))
  · have hlb : (((dig D4 n).length : Int) == 0) = false := by
      rw [beq_eq_false_iff_ne]
      intro e
      exact h0 (dig_nil (B := D4) (by decide) (List.eq_nil_of_length_eq_zero (by omega)))
    have HN := Lib.hid hn
    by_cases h1 : x < -1500
    · clear cP hd hne hx hn h0
      go_enter Tryz.func103, Tryz.ntmps103
      go_wp2_with fail
      refine CP.out.mono ?_
      rintro e w1 ⟨v, rfl, o, nb⟩
      obtain ⟨A1, d1, rfl, _⟩ := o.slice_
      clear o
      go_wp2
      go_ret2
      refine ⟨0, rfl, Lib.hid ?_, nb⟩
      rw [show x.toNat = 0 by omega, Nat.pow_zero, Nat.mul_one]
      obtain ⟨t, ht⟩ : ∃ t : Nat, t = 1024 := ⟨_, rfl⟩
      exact near_far_low (t := t) (by omega) ht (Nat.lt_of_lt_of_le HN.out (Nat.pow_le_pow_right (by omega) (by omega)))
    · have h2 : 400 < x := by omega
      have H0 := Lib.hid h0
      clear cP hd hne hx hn h0
      go_enter Tryz.func103, Tryz.ntmps103
      go_wp2_with fail
      refine CP.out.mono ?_
      rintro e w1 ⟨v, rfl, o, nb⟩
      obtain ⟨A1, d1, rfl, _⟩ := o.slice_
      clear o
      go_wp2
      go_ret2
      refine ⟨9218868437227405312, rfl, Lib.hid ?_, nb⟩
      rw [show (-x).toNat = 0 by omega, Nat.pow_zero]
      exact near_far_top (by have := H0.out; omega) (by omega)
end Go.Proofs.YtohickpkkldmdaaGreatDoor
