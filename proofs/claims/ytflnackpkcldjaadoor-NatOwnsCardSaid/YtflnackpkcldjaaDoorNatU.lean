/- Contracts of layer 2: Text. -/
import Derived.Test.YtflnackpkcldjaaDoorNatT
import Derived.Test.YtflnackpkcldjaaDoorNatQ
namespace Go.Proofs.YtflnackpkcldjaaDoor
open Go.RowKit Go.Lib

/-- Digits as bytes. -/
def d8 (ds : List Nat) : List Nat := ds.map fun d => 48 + d
theorem d8_len (ds : List Nat) : (d8 ds).length = ds.length := List.length_map _
theorem d8_snoc (ds : List Nat) (d : Nat) : d8 (ds ++ [d]) = d8 ds ++ [48 + d] := by simp [d8]
def lenOf : Value → Nat | .slice _ n _ => n | _ => 0
/-- Rows of different elements lie in different blocks. -/
theorem own_types {κ κ' : IntKind} {w : World} {B B' : Nat} {t t' : TypeId} {v v' : Value} {xs ys : List Nat} (h : Own κ w B t v xs) (h' : Own κ' w B' t' v' ys) (hne : t ≠ t') : v.ownBlock = none ∨ v.ownBlock ≠ v'.ownBlock := by
  rcases h.2 with ⟨rfl, _⟩ | ⟨g, cap, cur, rfl, _, hg, _⟩
  · exact .inl rfl
  · refine .inr fun e => ?_
    rcases h'.2 with ⟨rfl, _⟩ | ⟨g', cap', cur', rfl, _, hg', _⟩
    · cases e
    · have e2 : g = g' := Option.some.inj e
      subst e2
      rw [hg] at hg'
      cases hg'
      exact hne rfl
/-- What Text answers. -/
noncomputable def textRes (xs : List Nat) : List UInt8 × Int := if vld xs = true then (decs (vl B32 xs), 0) else ([], 30)
/-- The number of digits that have come. -/
theorem text_len {xs : List Nat} {n r : Nat} (hx : Lim B32 xs) (hr : 0 < r) (h : 10 ^ n * r ≤ vl B32 xs) : n < 10 * xs.length := by
  have h1 := vl_lt hx
  have h2 : B32 ^ xs.length ≤ (10 ^ 10) ^ xs.length := Nat.pow_le_pow_left (by decide) _
  rw [← Nat.pow_mul] at h2
  have h3 : 10 ^ n * 1 ≤ 10 ^ n * r := Nat.mul_le_mul_left _ hr
  have h4 : 10 ^ n < 10 ^ (10 * xs.length) := by omega
  exact (Nat.pow_lt_pow_iff_right (by omega)).1 h4
theorem rev_bytes {ds : List Nat} (h : Lim 10 ds) : nums .u8 (d8 ds).reverse = (ds.reverse.map db).map fun x => Value.int .u8 x.toNat := by
  unfold nums d8
  rw [← List.map_reverse, List.map_map, List.map_map]
  apply List.map_congr_left
  intro d hd
  have := h d (List.mem_reverse.1 hd)
  show Value.int .u8 ((48 + d : Nat) : Int) = Value.int .u8 ((db d).toNat : Int)
  rw [db_toNat this]
theorem conv_digits (W : World) (B : Nat) (v : Value) (l : List UInt8) (hown : W.ownsRow B 5 1 v l.length (l.map fun x => Value.int .u8 x.toNat)) :
    (convert 70 9 v).run Tryd.prog W = .ok (.string ⟨l.toArray⟩) W := by
  rcases hown.2 with ⟨rfl, h0⟩ | ⟨g, cap, cur, rfl, _⟩
  · have : l = [] := List.eq_nil_of_length_eq_zero h0
    subst this
    exact run_convert_nil_bytes W 70 9 5 0 Tryd.underlying70 Tryd.underlying5 Tryd.underlying9
  · refine run_convert_bytes_back (P := Tryd.prog) W 70 9 5 ⟨g, 0, none⟩ cap l Tryd.underlying70 Tryd.underlying5 Tryd.underlying9 (fun j hj => ?_)
    exact hown.cells (g := g) rfl j _ (by simp [hj])
/-- One digit more. -/
theorem digit_more {ds : List Nat} {p M : Nat} (h : vl 10 ds + 10 ^ ds.length * p = M) : vl 10 (ds ++ [p % 10]) + 10 ^ (ds ++ [p % 10]).length * (p / 10) = M := by
  rw [vl_snoc, List.length_append, List.length_singleton, Nat.pow_succ, ← h]
  have := digit_step (B := 10) (P := 10 ^ ds.length) (z := p)
  omega

set_option maxRecDepth 100000 in
set_option maxHeartbeats 4000000 in
theorem text_any (A : Option Addr) (ca : Nat) (xs : List Nat) (w : World) (hx : Lim B32 xs) (hxn : xs.length ≤ 1000) (hA : A = none → ca = 0) (hra : Rd .u32 w A xs) :
    Calls Tryd.prog 22 #[.slice A xs.length ca] w fun e w' => e = .returned (.tuple #[.string ⟨(textRes xs).1.toArray⟩, .int .i64 (textRes xs).2]) ∧ Below w.heap.size w w' := by
  have cV := valid_any A ca xs w (by omega) hx hra
  by_cases hvx : vld xs = true
  case neg =>
    have hvf : vld xs = false := by simpa using hvx
    have HR := Lib.hid (show textRes xs = ([], 30) by rw [textRes, if_neg hvx])
    rw [hvf] at cV
    have CV := Lib.hid cV
    clear cV hvx hvf
    go_enter Tryd.func22, Tryd.ntmps22
    go_wp2_with fail
    refine CV.out.mono ?_
    rintro e w' ⟨rfl, rfl⟩
    go_wp2
    go_ret2
    exact ⟨by rw [HR.out]; rfl, Below.refl _ _⟩
  have hnx := vld_norm hx hvx
  have HR := Lib.hid (show textRes xs = (decs (vl B32 xs), 0) by rw [textRes, if_pos hvx])
  rw [hvx] at cV
  have CV := Lib.hid cV
  clear cV hvx
  by_cases hx0 : xs = []
  · have hb : ((xs.length : Int) == 0) = true := by rw [hx0]; rfl
    have HD := Lib.hid (show decs (vl B32 xs) = [48] by rw [hx0]; rfl)
    clear hx0
    go_enter Tryd.func22, Tryd.ntmps22
    go_wp2_with fail
    refine CV.out.mono ?_
    rintro e w' ⟨rfl, rfl⟩
    go_wp2
    go_ret2
    exact ⟨by rw [HR.out, HD.out]; rfl, Below.refl _ _⟩
  obtain ⟨i0, hi, hz0, hz1, hz2⟩ := info_parts info_u8
  have hb : ((xs.length : Int) == 0) = false := by rw [beq_eq_false_iff_ne]; have := List.length_pos_iff.2 hx0; omega
  have hpos := vl_pos hnx.2 hx0
  have cF := fresh_any A ca xs w (by omega) hra hA
  have CF := Lib.hid cF
  clear cF hx0
  go_enter Tryd.func22, Tryd.ntmps22
  go_wp2_with fail
  refine CV.out.mono ?_
  rintro e w' ⟨rfl, rfl⟩
  go_wp2_with fail
  refine CF.out.mono ?_
  rintro e w1 ⟨v, rfl, hO, hB⟩
  rw [← natres_fix hnx] at hO
  clear CF CV
  go_wp2
  go_loopw [4, 5] (fun a b wr => ∃ (ds : List Nat) (r : Nat), Own .u8 wr w.heap.size 5 a (d8 ds) ∧ Own .u32 wr w.heap.size 47 b (dig B32 r) ∧ Lim 10 ds ∧ vl 10 ds + 10 ^ ds.length * r = vl B32 xs ∧ ds.length ≤ 10009 ∧ Below w.heap.size w wr) (fun a _ _ => 20000 - lenOf a)
  case atStart => exact ⟨[], vl B32 xs, Own.nil _ _ _, hO, lim_nil _, by simp [vl], Nat.zero_le _, hB⟩
  case round =>
    clear hO hB
    obtain ⟨ds, r, hO4, hO5, hL, hv, hlen, hB⟩ := hrel
    obtain ⟨A4, cap4, rfl, hc4⟩ := hO4.slice
    by_cases hr0 : r = 0
    · subst hr0
      have hv2 : vl 10 ds = vl B32 xs := by rw [← hv]; simp
      have hdn : 0 < ds.length := by
        rcases Nat.eq_zero_or_pos ds.length with h | h
        · have : ds = [] := List.eq_nil_of_length_eq_zero h
          rw [this] at hv2
          rw [← hv2] at hpos
          exact absurd hpos (by simp [vl])
        · exact h
      obtain ⟨g4, rfl, hg4⟩ := hO4.addr (by rw [d8_len]; exact hdn)
      obtain ⟨A5, cap5, rfl, _⟩ := hO5.slice
      have cR := reverse_any g4 (d8 ds).length cap4 w.heap.size (d8 ds) wr rfl (by rw [d8_len]; omega) hO4 hg4
      have CR := Lib.hid cR
      have HDP := Lib.hid (decs_pv hL (by rw [hv2]; omega))
      have HDW := Lib.hid (dropWhile_db (l := ds.reverse) (fun x h => hL x (List.mem_reverse.1 h)))
      have HV2 := Lib.hid hv2
      have HLL := Lib.hid hL
      clear cR hv hv2 hL hO4 hO5
      go_wp2_with fail
      refine CR.out.mono ?_
      rintro e w2 ⟨rfl, hO6, hB2⟩
      have hB3 := hB.trans hB2
      have hl6 : (d8 ds).reverse.length = (ds.reverse.map db).length := by rw [List.length_reverse, d8_len, List.length_map, List.length_reverse]
      have hl7 : (d8 ds).length = (ds.reverse.map db).length := by rw [d8_len, List.length_map, List.length_reverse]
      have hrow : w2.ownsRow w.heap.size 5 1 (.slice (some ⟨g4, 0, none⟩) (d8 ds).length cap4) (ds.reverse.map db).length ((ds.reverse.map db).map fun x => Value.int .u8 x.toNat) := by
        have := hO6.row hl6
        rwa [rev_bytes HLL.out] at this
      have hE : (⟨(Lib.trimLeftB (ds.reverse.map db) 48).toArray⟩ : ByteArray) = ⟨(decs (vl B32 xs)).toArray⟩ := by rw [← HV2.out, HDP.out, ← HDW.out]; rfl
      obtain ⟨bl, hbl⟩ : ∃ bl, ds.reverse.map db = bl := ⟨_, rfl⟩
      rw [hbl] at hrow hE
      have hcv := conv_digits w2 w.heap.size _ _ hrow
      have cT := Tryd.strings_TrimLeft_one ⟨bl.toArray⟩ 48 (by decide) w2
      have CT := Lib.hid cT
      have HE := Lib.hid hE
      clear hO6 hB2 hB CR hrow cT hl6 hl7 hE hbl
      go_wp2_with fail
      refine CT.out.mono ?_
      rintro e w' ⟨rfl, rfl⟩
      clear CT hcv
      have hE2 := HE.out
      rw [hE2]
      clear hE2
      go_wp2
      go_ret2
      exact ⟨by rw [HR.out]; rfl, hB3⟩
    · have hrp : 0 < r := Nat.pos_of_ne_zero hr0
      have hl := text_len hx hrp (by omega : 10 ^ ds.length * r ≤ vl B32 xs)
      have hdl : 0 < (dig B32 r).length := by
        rcases Nat.eq_zero_or_pos (dig B32 r).length with h | h
        · exact absurd (dig_nil (by decide) (List.eq_nil_of_length_eq_zero h)) hr0
        · exact h
      have hdl2 : (dig B32 r).length ≤ 1000 := by
        have h0 : (dig B32 r).length ≤ xs.length := by
          rw [dig_len_le (by decide)]
          have h1 := vl_lt hx
          have h3 : 1 * r ≤ 10 ^ ds.length * r := Nat.mul_le_mul_right _ (Nat.pow_pos (by omega))
          omega
        omega
      obtain ⟨g5, cap5, rfl, hg5, hc5⟩ := hO5.form hdl
      obtain ⟨R, hAt, hR⟩ := at_of_own hO5
      have hne := own_types hO4 hO5 (by decide)
      have cD := divLimb_any g5 0 cap5 1000000000 47 [] R (dig B32 r) wr hAt rfl (dig_norm (by decide) r).1 (by omega) (by omega) (by omega)
      have CD := Lib.hid cD
      have HRR := Lib.hid hR
      have HV := Lib.hid hv
      have HO4 := Lib.hid hO4
      have HNE := Lib.hid hne
      have hdp : (0 : Int) < ((dig B32 r).length : Int) := by omega
      clear cD hO4 hO5 hAt hR hv hne hlen
      go_wp2_with fail
      refine CD.out.mono ?_
      rintro e w3 ⟨⟨left, cur, hA3, hD3, rfl⟩, hG3⟩
      obtain ⟨e1, e2, e3, e4⟩ := one_div hD3
      rw [dig_vl (by decide)] at e1 e2
      have hB3 : Below w.heap.size w w3 := grown_below hB hG3 hB.size hg5
      have hO3 := own_of_at (B := w.heap.size) (cap := cap5) hA3 hg5 (by rw [e4]; exact HRR.out) hc5.2
      have hO43 : Own .u8 w3 w.heap.size 5 (.slice A4 (d8 ds).length cap4) (d8 ds) := HO4.out.kept hG3 (HNE.out.imp_right fun h => by simpa [Value.ownBlock] using h)
      have hleft : left < 1000000000 := hD3.2.2
      have E1 := Lib.hid e1
      have E2 := Lib.hid e2
      have E4 := Lib.hid e4
      rw [e4] at hO3
      clear hA3 hD3 hG3 e1 e2 e4 CD hB
      go_wp2
      obtain ⟨wo, rfl⟩ : ∃ wo : World, wo = w3 := ⟨w3, rfl⟩
      go_loopw [4, 6, 22] (fun a p i wi => ∃ (k q : Nat) (es : List Nat), k ≤ 9 ∧ i = .int .i64 k ∧ p = .int .u32 q ∧ q < 10 ^ (9 - k) ∧ es.length = ds.length + k ∧ Lim 10 es ∧ vl 10 es + 10 ^ es.length * q = vl 10 ds + 10 ^ ds.length * left ∧ Own .u8 wi w.heap.size 5 a (d8 es) ∧ Own .u32 wi w.heap.size 47 (.slice (some ⟨g5, 0, none⟩) (dig B32 r).length cap5) cur ∧ Below w.heap.size w wi) (fun _ _ i _ => 9 - (RowKit.intOf i).toNat)
      case atStart => exact ⟨0, left, ds, by omega, rfl, rfl, hleft, rfl, hL, rfl, hO43, hO3, hB3⟩
      case round =>
        clear hO43 hO3 hB3
        obtain ⟨k, q, es, hk, rfl, rfl, hq, hel, hLe, hve, hOa, hOb, hBi⟩ := hrel
        obtain ⟨Aa, capa, rfl, hca⟩ := hOa.slice
        by_cases hlt : k < 9
        · have hmore := digit_more hve
          have hq2 : q / 10 < 10 ^ (9 - (k + 1)) := by
            apply Nat.div_lt_of_lt_mul
            rw [Nat.mul_comm, ← Nat.pow_succ, show (9 - (k + 1)).succ = 9 - k by omega]
            exact hq
          have hqb : q < 1000000000 := Nat.lt_of_lt_of_le hq (pow10_le9 (by omega))
          have hown := hOa.row (n := es.length) (d8_len es)
          have hell := d8_len es
          have HQ2 := Lib.hid hq2
          have HMORE := Lib.hid hmore
          have HEL := Lib.hid hel
          have hne := own_types hOa hOb (by decide)
          have hsz := hBi.size
          have hes : es.length ≤ 20000 := by omega
          have hlim : Lim 10 (es ++ [q % 10]) := lim_append.2 ⟨hLe, lim_one.2 (by omega)⟩
          rw [d8_len]
          rw [d8_len] at hown hca hne
          have HNE := Lib.hid hne
          have hqi : IntKind.u8.wrap ((q : Int) % 10) = (q : Int) % 10 := IntWalk.u8_in _ (by omega)
          have HOB := Lib.hid hOb
          clear hmore hq2 hq hell hel hve hLe hne hOa hOb
          go_wp2_with (at_builtin; refine wpList_append_own _ rfl _ _ 70 rfl w.heap.size 5 i0 (.int .u8 0) 1 1 Tryd.underlying70 hi hz0 hz1 hz2 rfl (by decide) _ _ _ rfl (hown.alloc _) ⟨wr.heap.size, 0, none⟩ 1 1 [.int .u8 ((48 + q % 10 : Nat) : Int)] rfl rfl (cell_one_new _ _ _) ?c2 ?c3 ?c4 ?c5 ?_)
          case c2 => simp [Value.oneCell']
          case c3 => unfold maxLen; omega
          case c4 => omega
          case c5 => first | omega | (simp; omega)
          intro v' w4 hown' hgrow _
          have hB4 : Below w.heap.size w w4 := (hBi.alloc hsz _).grown hgrow (by simp; omega) (fun z e => (hown.lt z e).1)
          have hOb4 := (HOB.out.alloc (.cells #[.int .u8 ((48 + q % 10 : Nat) : Int)] 5)).kept hgrow (HNE.out.elim (fun h => .inr (by rw [h]; simp [Value.ownBlock])) (fun h => .inr (Ne.symm h)))
          have hOa4 := Own.snoc hown' (d8_len es).symm
          rw [← d8_snoc] at hOa4
          have HO1 := Lib.hid hOa4
          have HO2 := Lib.hid hOb4
          clear hown hown' hgrow hOa4 hOb4 hqi
          go_wp2
          go_roundw
          case rel => exact ⟨k + 1, q / 10, es ++ [q % 10], by omega, by go_num, vint (by omega), HQ2.out, by rw [List.length_append, HEL.out]; rfl, hlim, HMORE.out, HO1.out, HO2.out, hB4⟩
          case measure => simp [RowKit.intOf]; omega
        · obtain rfl : k = 9 := by omega
          obtain rfl : q = 0 := by simpa using hq
          rw [Nat.mul_zero, Nat.add_zero] at hve
          have hvn : vl 10 es + 10 ^ es.length * (r / 1000000000) = vl B32 xs := by
            rw [hve, hel, Nat.pow_add, E2.out, ← HV.out]
            have := Nat.mod_add_div r 1000000000
            have h2 := congrArg (10 ^ ds.length * ·) this
            simp only [Nat.mul_add, ← Nat.mul_assoc] at h2
            rw [show (10 : Nat) ^ 9 = 1000000000 from rfl]
            omega
          have cT := trim_own _ _ cur wr e3 (by rw [E4.out]; omega) hOb
          rw [E1.out] at cT
          have CT := Lib.hid cT
          have HVN := Lib.hid hvn
          have HOA := Lib.hid hOa
          have hel2 : es.length ≤ 10009 := by omega
          have hgr : ds.length < es.length := by omega
          rw [d8_len]
          rw [d8_len] at HOA
          clear cT hvn hOb hel hve hq hOa
          go_wp2_with fail
          refine CT.out.mono ?_
          rintro e w' ⟨⟨v', rfl, hO7, _⟩, rfl⟩
          have HO7 := Lib.hid hO7
          clear hO7 CT
          go_wp2
          go_roundw
          case rel => exact ⟨es, r / 1000000000, HOA.out, HO7.out, hLe, HVN.out, hel2, hBi⟩
          case measure =>
            show 20000 - es.length < 20000 - (d8 ds).length
            rw [d8_len]; omega
end Go.Proofs.YtflnackpkcldjaaDoor
