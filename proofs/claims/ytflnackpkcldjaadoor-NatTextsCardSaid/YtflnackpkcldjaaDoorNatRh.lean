/- The definition of layer 2: Text. -/
import Derived.Test.YtflnackpkcldjaaDoorNatU
import Derived.Test.YtflnackpkcldjaaDoorNatRa
namespace Go.Proofs.YtflnackpkcldjaaDoor
open Go.RowKit Go.Lib

/-- The definition's Text: the four digits of a piece. -/
def quad (x : Nat) : List Nat := [x / 1000, x / 100 % 10, x / 10 % 10, x % 10]
theorem quad_lim {x : Nat} (h : x < 10000) : Lim 10 (quad x) := by
  intro y hy
  simp [quad] at hy
  omega
/-- The digits so far, the highest first. -/
structure RTxt (xs ds : List Nat) (k : Nat) : Prop where
  len : ds.length = 4 * (xs.length - k)
  lim : Lim 10 ds
  eq : vl 10 ds.reverse = vl D4 (xs.drop k)
theorem rtxt_start (xs : List Nat) : RTxt xs [] xs.length := ⟨by simp, lim_nil _, by rw [List.drop_length]; rfl⟩
theorem rtxt_step {xs ds : List Nat} {k : Nat} (h : RTxt xs ds (k + 1)) (hk : k < xs.length) (hx : Lim D4 xs) : RTxt xs (ds ++ quad xs[k]) k := by
  have hb := lim_get hx k hk
  refine ⟨?_, lim_append.2 ⟨h.lim, quad_lim hb⟩, ?_⟩
  · rw [List.length_append, h.len]
    show _ + 4 = _
    omega
  · rw [drop_get xs k hk, vl_cons, ← h.eq, List.reverse_append]
    obtain ⟨x, hxe⟩ : ∃ x, xs[k] = x := ⟨_, rfl⟩
    rw [hxe] at hb ⊢
    show vl 10 ((x % 10) :: (x / 10 % 10) :: (x / 100 % 10) :: (x / 1000) :: ds.reverse) = x + 10000 * vl 10 ds.reverse
    simp only [vl_cons]
    omega
/-- The noughts ahead. -/
theorem dropWhile_at {ds : List Nat} {k : Nat} (hk : k < ds.length) (h0 : ∀ j (hj : j < ds.length), j < k → ds[j] = 0) (hne : ds[k] ≠ 0) : ds.dropWhile (· == 0) = ds.drop k := by
  induction k generalizing ds with
  | zero =>
    cases ds with
    | nil => simp at hk
    | cons x l =>
      rw [List.dropWhile_cons, if_neg (by simpa using hne), List.drop_zero]
  | succ k ih =>
    cases ds with
    | nil => simp at hk
    | cons x l =>
      have hx : x = 0 := h0 0 (by simp) (by omega)
      rw [List.dropWhile_cons, if_pos (by simpa using hx), List.drop_succ_cons]
      exact ih (by simpa using hk) (fun j hj h => h0 (j + 1) (by simpa using hj) (by omega)) hne
theorem vl_pos_ex {ds : List Nat} (h : ∀ j (hj : j < ds.length), ds[j] = 0) : vl 10 ds.reverse = 0 := by
  have : ds = List.replicate ds.length 0 := by
    apply List.ext_getElem
    · simp
    · intro i h1 h2; rw [List.getElem_replicate]; exact h i h1
  rw [this, List.reverse_replicate, vl_zeros]
theorem rtxt_end {xs ds : List Nat} {k : Nat} (h : RTxt xs ds 0) (hn : vl D4 xs ≠ 0) (hk : k < ds.length) (h0 : ∀ j (hj : j < ds.length), j < k → ds[j] = 0) (hne : ds[k] ≠ 0) : decs (vl D4 xs) = (ds.drop k).map db := by
  have e := h.eq
  rw [List.drop_zero] at e
  rw [← e, decs_pv (fun x hx => h.lim x (List.mem_reverse.1 hx)) (by rw [e]; exact hn), List.reverse_reverse, dropWhile_at hk h0 hne]
/-- The definition's Parse: pieces of four digits from the end. -/
structure RPar (l : List UInt8) (ds : List Nat) (m : Nat) : Prop where
  lim : Lim D4 ds
  eq : vl D4 ds = pv (l.drop m)
  pow : 0 < m → 10 ^ (l.length - m) = D4 ^ ds.length
theorem rpar_start (l : List UInt8) : RPar l [] l.length := ⟨lim_nil _, by rw [List.drop_length]; rfl, fun _ => by simp⟩
theorem pv_lt4 {l : List UInt8} (h : Dec l) (hl : l.length ≤ 4) : pv l < 10000 := by
  have h1 := pv_lt h
  have h2 : 10 ^ l.length ≤ 10 ^ 4 := Nat.pow_le_pow_right (by omega) hl
  exact Nat.lt_of_lt_of_le h1 h2
theorem drop_split {l : List UInt8} {m m' : Nat} (h : m' ≤ m) : l.drop m' = (l.drop m').take (m - m') ++ l.drop m := by
  have := (List.take_append_drop (m - m') (l.drop m')).symm
  rwa [List.drop_drop, show m' + (m - m') = m by omega] at this
theorem rpar_step {l : List UInt8} {ds : List Nat} {m m' : Nat} (h : RPar l ds m) (hd : Dec l) (hm0 : 0 < m) (hm : m ≤ l.length) (he : m' = m - 4) : RPar l (ds ++ [pv ((l.drop m').take (m - m'))]) m' := by
  have hp := h.pow hm0
  refine ⟨lim_append.2 ⟨h.lim, lim_one.2 (pv_lt4 (dec_take (dec_drop hd _) _) (by rw [List.length_take]; omega))⟩, ?_, ?_⟩
  · rw [vl_snoc, h.eq, ← hp, drop_split (show m' ≤ m by omega), pv_append, List.length_drop, Nat.mul_comm]
    have e : (((l.drop m').take (m - m') ++ l.drop m).take (m - m')) = (l.drop m').take (m - m') := by
      rw [List.take_append_of_le_length (by rw [List.length_take, List.length_drop]; omega), List.take_take, Nat.min_self]
    rw [e]
    omega
  · intro h0
    rw [List.length_append, List.length_singleton, Nat.pow_succ, ← hp, show l.length - m' = (l.length - m) + 4 by omega, Nat.pow_add]
theorem rpar_end {l : List UInt8} {ds : List Nat} (h : RPar l ds 0) : vl D4 ds = pv l := by
  have := h.eq
  rwa [List.drop_zero] at this

theorem cells_four (w : World) (a b c d : Value) (t : TypeId) : ∀ j u, [a, b, c, d][j]? = some u → (w.alloc (.cells #[a, b, c, d] t)).cell? ((⟨w.heap.size, 0, none⟩ : Addr).add j) = some u :=
  (World.ownsRow_lit (base := w.heap.size) (e := t) (size := 1) w #[a, b, c, d] 4 (Nat.le_refl _) (by decide) rfl).cells (g := w.heap.size) rfl
theorem quad_cells {x : Nat} {a b c d : Int} (ha : a = ((48 + x / 1000 : Nat) : Int)) (hb : b = ((48 + x / 100 % 10 : Nat) : Int)) (hc : c = ((48 + x / 10 % 10 : Nat) : Int)) (hd : d = ((48 + x % 10 : Nat) : Int)) :
    [Value.int .u8 a, .int .u8 b, .int .u8 c, .int .u8 d] = nums .u8 (d8 (quad x)) := by
  subst ha hb hc hd
  rfl
theorem d8_app (a b : List Nat) : d8 (a ++ b) = d8 a ++ d8 b := by simp [d8]
theorem Own.more {κ : IntKind} {w : World} {B : Nat} {t : TypeId} {v : Value} {xs ys : List Nat} {k m : Nat} {cs : List Value} (h : w.ownsRow B t 1 v (k + m) (nums κ xs ++ cs)) (hc : cs = nums κ ys) (hk : k = xs.length) (hm : m = ys.length) : Own κ w B t v (xs ++ ys) := by
  subst hc
  exact Own.append h hk hm
theorem fwd_bytes {ds : List Nat} (h : Lim 10 ds) : nums .u8 (d8 ds) = (ds.map db).map fun x => Value.int .u8 x.toNat := by
  have := rev_bytes (ds := ds.reverse) (fun x hx => h x (List.mem_reverse.1 hx))
  rw [List.reverse_reverse] at this
  rw [← this, d8, d8, List.map_reverse, List.reverse_reverse]
/-- 'string(out[k:])'. -/
theorem conv_from (W : World) (B g cap k : Nat) (ds : List Nat) (hl : Lim 10 ds) (hO : Own .u8 W B 5 (.slice (some ⟨g, 0, none⟩) ds.length cap) (d8 ds)) (hk : k ≤ ds.length) :
    (convert 70 9 (.slice (some ⟨g, k, none⟩) (ds.length - k) (cap - k))).run Tryd.prog W = .ok (.string ⟨((ds.drop k).map db).toArray⟩) W := by
  have e : ds.length - k = ((ds.drop k).map db).length := by simp
  rw [e]
  refine run_convert_bytes_back (P := Tryd.prog) W 70 9 5 ⟨g, k, none⟩ (cap - k) ((ds.drop k).map db) Tryd.underlying70 Tryd.underlying5 Tryd.underlying9 (fun j hj => ?_)
  rw [List.length_map, List.length_drop] at hj
  have hc := hO.cell (k + j) (by rw [d8_len]; omega)
  rw [Addr.add_lit, hc]
  have h1 : (d8 ds)[k + j]'(by rw [d8_len]; omega) = 48 + ds[k + j]'(by omega) := by simp [d8]
  have h2 : ((ds.drop k).map db)[j]'(by simp; omega) = db (ds[k + j]'(by omega)) := by simp
  rw [h1, h2, db_toNat (lim_get hl (k + j) (by omega))]

set_option maxRecDepth 100000 in
set_option maxHeartbeats 4000000 in
theorem rtext_any (A : Option Addr) (ca : Nat) (xs : List Nat) (w : World) (hx : Norm D4 xs) (hxn : xs.length ≤ 100000) (hra : Rd .i64 w A xs) :
    Calls Tryd.prog 23 #[.slice A xs.length ca] w fun e w' => e = .returned (.string ⟨(decs (vl D4 xs)).toArray⟩) ∧ Below w.heap.size w w' := by
  by_cases hx0 : xs = []
  · have hb : ((xs.length : Int) == 0) = true := by rw [hx0]; rfl
    have HD := Lib.hid (show decs (vl D4 xs) = [48] by rw [hx0]; rfl)
    clear hx0 hx hra
    go_enter Tryd.func23, Tryd.ntmps23
    go_wp2
    go_ret
    exact ⟨by rw [HD.out]; rfl, Below.refl _ _⟩
  obtain ⟨i0, hi, hz0, hz1, hz2⟩ := info_parts info_u8
  have hlen := List.length_pos_iff.2 hx0
  have hb : ((xs.length : Int) == 0) = false := by rw [beq_eq_false_iff_ne]; omega
  have hpos := vl_top (B := D4) hx.2 hx0
  have hpp : 0 < D4 ^ (xs.length - 1) := Nat.pow_pos (by decide)
  have HNZ := Lib.hid (show vl D4 xs ≠ 0 by omega)
  have hL := hx.1
  clear hx hx0 hpos hpp
  go_enter Tryd.func23, Tryd.ntmps23
  go_wp2
  go_loopw [3, 4] (fun v i wr => ∃ (k : Nat) (ds : List Nat), k ≤ xs.length ∧ i = .int .i64 ((k : Int) - 1) ∧ Own .u8 wr w.heap.size 5 v (d8 ds) ∧ RTxt xs ds k ∧ Below w.heap.size w wr) (fun _ i _ => (RowKit.intOf i + 1).toNat)
  case atStart => exact ⟨xs.length, [], Nat.le_refl _, rfl, Own.nil _ _ _, rtxt_start xs, Below.refl _ _⟩
  case round =>
    obtain ⟨k, ds, hk, rfl, hO, hR, hB⟩ := hrel
    obtain ⟨A3, c3, rfl, hc3⟩ := hO.slice
    have hdl := hR.len
    rw [d8_len] at hO hc3 ⊢
    rcases k with _ | k
    · have hdp : 0 < ds.length := by omega
      obtain ⟨g, rfl, hg⟩ := hO.addr (by rw [d8_len]; exact hdp)
      have HR := Lib.hid hR
      have HO := Lib.hid hO
      have hlm := hR.lim
      have hdb4 : ds.length ≤ 400000 := by omega
      clear hR hO hdl
      go_wp2
      go_loop [6] (fun q => ∃ m : Nat, m < ds.length ∧ q = .int .i64 m ∧ ∀ j (hj : j < ds.length), j < m → ds[j] = 0) (fun q => ds.length - (RowKit.intOf q).toNat)
      case atStart => exact ⟨0, hdp, rfl, fun j _ h => absurd h (by omega)⟩
      case round =>
        obtain ⟨m, hm, rfl, h0⟩ := hrel
        obtain ⟨d, hde⟩ : ∃ d, ds[m] = d := ⟨_, rfl⟩
        have hd10 : d < 10 := by rw [← hde]; exact lim_get hlm m hm
        have hc := HO.out.cell m (by rw [d8_len]; exact hm)
        have he : (d8 ds)[m]'(by rw [d8_len]; exact hm) = 48 + d := by rw [← hde]; simp [d8]
        rw [he] at hc
        have HDE := Lib.hid hde
        have H0 := Lib.hid h0
        clear hde he h0
        by_cases hd0 : d = 0
        · subst hd0
          have hm1 : m + 1 < ds.length := by
            rcases Nat.lt_or_ge (m + 1) ds.length with h | h
            · exact h
            · have hz := vl_pos_ex (ds := ds) (fun j hj => by
                by_cases e : j = m
                · subst e; exact HDE.out
                · exact H0.out j hj (by omega))
              have e := HR.out.eq
              rw [List.drop_zero, hz] at e
              exact absurd e.symm HNZ.out
          go_wp2
          go_round
          case rel => exact ⟨m + 1, hm1, by go_num, fun j hj h => by
            by_cases e : j = m
            · subst e; exact HDE.out
            · exact H0.out j hj (by omega)⟩
          case measure => simp [RowKit.intOf]; omega
        · have hdb : (((48 + d : Nat) : Int) == 48) = false := by rw [beq_eq_false_iff_ne]; omega
          have hdb2 : (48 + (d : Int) == 48) = false := by rw [beq_eq_false_iff_ne]; omega
          have HE := Lib.hid (show decs (vl D4 xs) = List.drop m (List.map db ds) by rw [rtxt_end HR.out HNZ.out hm H0.out (by rw [HDE.out]; exact hd0), List.map_drop])
          have hcv := conv_from wr w.heap.size g c3 m ds hlm HO.out (by omega)
          have hcm : ¬ c3 = m := by omega
          clear HO
          go_wp2
          go_ret
          exact ⟨by rw [HE.out]; rfl, hB⟩
    · have hlx : k < xs.length := hk
      obtain ⟨g, o, rfl, hc⟩ := (hra.below hB) k hlx
      obtain ⟨x, hxe, hxk⟩ := lim4 hL k hlx
      rw [hxe] at hc
      have hS := rtxt_step hR hlx hL
      rw [hxe] at hS
      have HS := Lib.hid hS
      have hown := hO.row (n := ds.length) (d8_len ds)
      have hsz := hB.size
      have hdb : ds.length ≤ 400000 := by omega
      have hw1 : IntKind.u8.wrap (48 + (x : Int) / 1000) = 48 + (x : Int) / 1000 := IntWalk.u8_in _ (by omega)
      have hw2 : IntKind.u8.wrap (48 + (x : Int) / 100 % 10) = 48 + (x : Int) / 100 % 10 := IntWalk.u8_in _ (by omega)
      have hw3 : IntKind.u8.wrap (48 + (x : Int) / 10 % 10) = 48 + (x : Int) / 10 % 10 := IntWalk.u8_in _ (by omega)
      have hw4 : IntKind.u8.wrap (48 + (x : Int) % 10) = 48 + (x : Int) % 10 := IntWalk.u8_in _ (by omega)
      clear hR hO hS hxe hdl hc3
      rw [show ((k + 1 : Nat) : Int) - 1 = (k : Int) by omega]
      go_wp2_with (at_builtin; refine wpList_append_own _ rfl _ _ 70 rfl w.heap.size 5 i0 (.int .u8 0) 1 1 Tryd.underlying70 hi hz0 hz1 hz2 rfl (by decide) _ _ _ rfl (hown.alloc _) ⟨wr.heap.size, 0, none⟩ 4 4 _ rfl rfl (cells_four _ _ _ _ _ _) ?c2 ?c3 ?c4 ?c5 ?_)
      case c2 => simp [Value.oneCell']
      case c3 => unfold maxLen; omega
      case c4 => omega
      case c5 => first | omega | (simp; omega)
      intro v' w4 hown' hgrow _
      have hB4 : Below w.heap.size w w4 := (hB.alloc hsz _).grown hgrow (by simp; omega) (fun z e => (hown.lt z e).1)
      have hO4 := Own.more (ys := d8 (quad x)) hown' (quad_cells (by omega) (by omega) (by omega) (by omega)) (d8_len ds).symm rfl
      rw [← d8_app] at hO4
      have HO1 := Lib.hid hO4
      clear hown hown' hgrow hO4 hw1 hw2 hw3 hw4
      go_wp2
      go_roundw
      case rel => exact ⟨k, ds ++ quad x, by omega, rfl, HO1.out, HS.out, hB4⟩
      case measure => simp [RowKit.intOf]
end Go.Proofs.YtflnackpkcldjaaDoor
