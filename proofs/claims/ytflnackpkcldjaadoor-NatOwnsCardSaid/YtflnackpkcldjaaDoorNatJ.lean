/- Contracts of layer 2: Cmp, Valid, From, fit, Bits. -/
import Derived.Deep.RegionWith
import Derived.Test.YtflnackpkcldjaaDoorShelf
import Derived.Test.YtflnackpkcldjaaDoorNatI
namespace Go.Proofs.YtflnackpkcldjaaDoor
open Go.RowKit Go.Lib

set_option maxRecDepth 100000 in
set_option maxHeartbeats 1000000 in
theorem cmp_any (A A' : Option Addr) (ca cb : Nat) (xs ys : List Nat) (w : World) (hx : Norm B32 xs) (hy : Norm B32 ys) (hxn : xs.length ≤ 100000) (hyn : ys.length ≤ 100000) (hra : Rd .u32 w A xs) (hrb : Rd .u32 w A' ys) :
    Calls Tryd.prog 20 #[.slice A xs.length ca, .slice A' ys.length cb] w fun e w' => e = .returned (.int .i64 (cmpZ (vl B32 xs) (vl B32 ys))) ∧ ∃ n, w' = w.drewN n := by
  by_cases hne : xs.length = ys.length
  · have hnb : ((xs.length : Int) != (ys.length : Int)) = false := by simp [hne]
    have HN := Lib.hid hne; clear hne
    go_enter Tryd.func20, Tryd.ntmps20
    go_wp2
    go_loopw [5] (fun i wr => ∃ k n : Nat, k ≤ xs.length ∧ i = .int .i64 ((k : Int) - 1) ∧ xs.drop k = ys.drop k ∧ wr = w.drewN n) (fun i _ => (RowKit.intOf i + 1).toNat)
    case atStart => exact ⟨xs.length, 0, Nat.le_refl _, rfl, by rw [List.drop_length, HN.out, List.drop_length], rfl⟩
    case round =>
      obtain ⟨k, n, hk, rfl, hd, rfl⟩ := hrel
      have HD := Lib.hid hd; clear hd
      rcases k with _ | k
      · have he : cmpZ (vl B32 xs) (vl B32 ys) = 0 := by
          have := HD.out
          simp at this
          rw [this]; exact cmpZ_eq rfl
        have HE := Lib.hid he; clear he
        go_wp2
        go_ret
        exact ⟨by rw [HE.out]; rfl, n, rfl⟩
      · have hlx : k < xs.length := hk
        have hly : k < ys.length := by have := HN.out; omega
        obtain ⟨g, o, rfl, hc⟩ := hra k hlx
        obtain ⟨g', o', rfl, hc'⟩ := hrb k hly
        obtain ⟨x, hxe, hxk⟩ := lim32 hx.1 k hlx
        obtain ⟨y, hye, hyk⟩ := lim32 hy.1 k hly
        rw [hxe] at hc
        rw [hye] at hc'
        by_cases hxy : x = y
        · have hd2 : xs.drop k = ys.drop k := by rw [drop_get xs k hlx, drop_get ys k hly, HD.out, hxe, hye, hxy]
          have HD2 := Lib.hid hd2
          subst hxy
          have hq : ((x : Int) != (x : Int)) = false := by simp
          clear hd2 hxe hye
          rw [show ((k + 1 : Nat) : Int) - 1 = (k : Int) by omega]
          go_wp2
          go_quiet (fail)
          go_wp2
          go_roundw
          case rel => exact ⟨k, _, by omega, rfl, HD2.out, rfl⟩
          case measure => simp [RowKit.intOf]
        · have hq : ((x : Int) != (y : Int)) = true := by simp; omega
          have he : cmpZ (vl B32 xs) (vl B32 ys) = cmpZ x y := by
            rcases Nat.lt_or_gt_of_ne hxy with h | h
            · rw [cmpZ_lt h, cmpZ_lt (vl_cmp_at hx.1 HN.out hlx HD.out (by rw [hxe, hye]; exact h))]
            · rw [cmpZ_gt h, cmpZ_gt (vl_cmp_at hy.1 HN.out.symm hly HD.out.symm (by rw [hxe, hye]; exact h))]
          have HE := Lib.hid he
          clear hxe hye he
          rw [show ((k + 1 : Nat) : Int) - 1 = (k : Int) by omega]
          go_wp2
          go_quiet (fail)
          go_wp2
          go_quiet ((go_at_call 42; exact quiet_more (compare_u32 _ _ _)))
          go_wp2
          go_ret
          exact ⟨by rw [HE.out]; rfl, _, by rw [World.drewN_drewN, World.drewN_drewN]⟩
  · have he : cmpZ (vl B32 xs) (vl B32 ys) = cmpZ xs.length ys.length := by
      rcases Nat.lt_or_gt_of_ne hne with h | h
      · rw [cmpZ_lt h, cmpZ_lt (norm_len_lt (by decide) hx.1 hy.2 h)]
      · rw [cmpZ_gt h, cmpZ_gt (norm_len_lt (by decide) hy.1 hx.2 h)]
    rw [he]
    have hnb : ((xs.length : Int) != (ys.length : Int)) = true := by simp; omega
    clear he hne
    go_enter Tryd.func20, Tryd.ntmps20
    go_wp2_with (go_at_call 41; refine (compare_int _ _ _).mono ?_; rintro e w' ⟨rfl, rfl⟩)
    go_ret
    exact ⟨rfl, 0, rfl⟩

/-- Which lists are naturals. -/
noncomputable def vld (xs : List Nat) : Bool := @decide (xs.length ≤ 256 ∧ Top xs) (Classical.propDecidable _)
theorem vld_iff {xs : List Nat} : vld xs = true ↔ xs.length ≤ 256 ∧ Top xs := by
  unfold vld
  exact @decide_eq_true_iff _ (Classical.propDecidable _)
theorem vld_no {xs : List Nat} : vld xs = false ↔ ¬ (xs.length ≤ 256 ∧ Top xs) := by
  unfold vld
  exact @decide_eq_false_iff_not _ (Classical.propDecidable _)
theorem top_get {xs : List Nat} (h : 0 < xs.length) : Top xs ↔ xs[xs.length - 1] ≠ 0 := by
  unfold Top
  rw [List.getLast?_eq_getElem?, List.getElem?_eq_getElem (by omega)]
  simp
set_option maxRecDepth 100000 in
set_option maxHeartbeats 1000000 in
theorem valid_any (A : Option Addr) (ca : Nat) (xs : List Nat) (w : World) (hxn : xs.length ≤ 100000) (hx : Lim B32 xs) (hr : Rd .u32 w A xs) :
    Calls Tryd.prog 15 #[.slice A xs.length ca] w fun e w' => e = .returned (.bool (vld xs)) ∧ w = w' := by
  by_cases h0 : xs.length = 0
  · have hv : vld xs = true := by
      have : xs = [] := List.eq_nil_of_length_eq_zero h0
      subst this
      exact vld_iff.2 ⟨Nat.zero_le _, top_nil⟩
    rw [hv]
    have hb : ((xs.length : Int) == 0) = true := by simp [h0]
    have H0 := Lib.hid h0; clear h0
    go_enter Tryd.func15, Tryd.ntmps15
    go_wp2
    go_ret
    exact ⟨rfl, rfl⟩
  · have hb : ((xs.length : Int) == 0) = false := by simp; intro e; subst e; exact h0 rfl
    by_cases h1 : xs.length ≤ 256
    · obtain ⟨g, o, rfl, hc⟩ := hr (xs.length - 1) (by omega)
      obtain ⟨x, hxe, hxk⟩ := lim32 hx (xs.length - 1) (by omega)
      rw [hxe] at hc
      have hv : vld xs = (x != 0) := by
        have ht := top_get (xs := xs) (by omega)
        rw [hxe] at ht
        by_cases hx0 : x = 0
        · rw [vld_no.2 (fun h => absurd hx0 (ht.1 h.2))]; simp [hx0]
        · rw [vld_iff.2 ⟨h1, ht.2 hx0⟩]; simp [hx0]
      rw [hv]
      clear hxe hv
      by_cases hx0 : x = 0
      · subst hx0
        go_enter Tryd.func15, Tryd.ntmps15
        go_wp2
        go_ret
        exact ⟨rfl, rfl⟩
      · have e1 : (x != 0) = true := by simp [hx0]
        have e2 : ((x : Int) != 0) = true := by simp; omega
        rw [e1]
        go_enter Tryd.func15, Tryd.ntmps15
        go_wp2
        go_ret
        exact ⟨rfl, rfl⟩
    · rw [vld_no.2 (fun h => h1 h.1)]
      go_enter Tryd.func15, Tryd.ntmps15
      go_wp2
      go_ret
      exact ⟨rfl, rfl⟩

set_option maxRecDepth 100000 in
set_option maxHeartbeats 1000000 in
/-- trim, of a row of the call's own. -/
theorem trim_own (v : Value) (B : Nat) (xs : List Nat) (w : World) (hx : Lim B32 xs) (hxn : xs.length ≤ 100000) (hO : Own .u32 w B 47 v xs) :
    Calls Tryd.prog 38 #[v] w fun e w' => (∃ v', e = .returned v' ∧ Own .u32 w B 47 v' (dig B32 (vl B32 xs)) ∧ v'.ownBlock = v.ownBlock) ∧ w = w' := by
  obtain ⟨A, cap, rfl, h1, h2⟩ := hO.slice
  refine (trim_any A cap xs w hx hxn h1 h2 hO.rd).mono ?_
  rintro e w' ⟨⟨m, hm, hd, rfl⟩, rfl⟩
  exact ⟨⟨_, rfl, by rw [hd]; exact hO.take m hm, by cases A <;> rfl⟩, rfl⟩

/-- A natural that is answered, or the error. -/
def natRes (n : Nat) : List Nat × Int := if (dig B32 n).length ≤ 256 then (dig B32 n, 0) else ([], 3)
/-- A row of the call's own and an error's number. -/
def RowErr (B : Nat) (w : World) (x : List Nat × Int) (e : Ending) (w' : World) : Prop := ∃ v, e = .returned (.tuple #[v, .int .i64 x.2]) ∧ Own .u32 w' B 47 v x.1 ∧ Below B w w'
set_option maxRecDepth 100000 in
set_option maxHeartbeats 1000000 in
theorem fit_own (v : Value) (B : Nat) (xs : List Nat) (w : World) (hx : Lim B32 xs) (hxn : xs.length ≤ 100000) (hO : Own .u32 w B 47 v xs) :
    Calls Tryd.prog 35 #[v] w (RowErr B w (natRes (vl B32 xs))) := by
  have CT := Lib.hid (trim_own v B xs w hx hxn hO)
  by_cases h : (dig B32 (vl B32 xs)).length ≤ 256
  · have HR := Lib.hid (show natRes (vl B32 xs) = (dig B32 (vl B32 xs), 0) by rw [natRes, if_pos h])
    go_enter Tryd.func35, Tryd.ntmps35
    go_wp2_with fail
    refine CT.out.mono ?_
    rintro e w' ⟨⟨v', rfl, hO', _⟩, rfl⟩
    obtain ⟨A, cap, rfl, _⟩ := hO'.slice
    have HO := Lib.hid hO'; clear hO'
    go_wp2
    go_ret2
    exact ⟨_, by rw [HR.out]; rfl, by rw [HR.out]; exact HO.out, Below.refl _ _⟩
  · have HR := Lib.hid (show natRes (vl B32 xs) = ([], 3) by rw [natRes, if_neg h])
    go_enter Tryd.func35, Tryd.ntmps35
    go_wp2_with fail
    refine CT.out.mono ?_
    rintro e w' ⟨⟨v', rfl, hO', _⟩, rfl⟩
    obtain ⟨A, cap, rfl, _⟩ := hO'.slice
    clear hO'
    go_wp2
    go_ret2
    exact ⟨_, by rw [HR.out]; rfl, by rw [HR.out]; exact Own.nil _ _ _, Below.refl _ _⟩

theorem own_pair (w : World) (a b : Nat) (t : TypeId) : Own .u32 (w.alloc (.cells #[.int .u32 (a : Nat), .int .u32 (b : Nat)] t)) w.heap.size t (.slice (some ⟨w.heap.size, 0, none⟩) 2 2) [a, b] :=
  World.ownsRow_lit (e := t) (size := 1) w #[.int .u32 (a : Nat), .int .u32 (b : Nat)] 2 (Nat.le_refl _) (by decide) rfl
set_option maxRecDepth 100000 in
set_option maxHeartbeats 1000000 in
theorem from_any (lo hi : Nat) (w : World) (hlo : lo < 4294967296) (hhi : hi < 4294967296) :
    Calls Tryd.prog 26 #[.int .u64 ((lo : Int) + 4294967296 * (hi : Int))] w (Makes .u32 47 w (dig B32 (lo + 4294967296 * hi))) := by
  have e1 : ((lo : Int) + 4294967296 * (hi : Int)) % 4294967296 = (lo : Int) := by omega
  have e2 : ((lo : Int) + 4294967296 * (hi : Int)) / 4294967296 = (hi : Int) := by omega
  have e3 : (hi : Int) % 4294967296 = (hi : Int) := by omega
  have hl : Lim B32 [lo, hi] := lim_cons.2 ⟨hlo, lim_one.2 hhi⟩
  have CT := Lib.hid (trim_own _ _ [lo, hi] _ hl (by simp) (own_pair w lo hi 47))
  clear hl
  go_enter Tryd.func26, Tryd.ntmps26
  go_wp2_with fail
  refine CT.out.mono ?_
  rintro e w' ⟨⟨v', rfl, hO', _⟩, rfl⟩
  have HO := Lib.hid hO'; clear hO' e1 e2 e3
  go_wp2
  go_ret
  exact ⟨_, rfl, HO.out, (Below.refl _ _).alloc (Nat.le_refl _) _⟩
end Go.Proofs.YtflnackpkcldjaaDoor
