/- The law NatOwns, walked. -/
import Derived.Deep.QuietTactic
import Derived.BigQuiet
import Derived.Test.YtflnackpkcldjaaDoorNatOa
namespace Go.Proofs.YtflnackpkcldjaaDoor
open Go.RowKit Go.Lib

theorem info_row : (Tryd.prog.info? 22).map (fun i => (i.zero, i.size, i.bytes)) = some (some (.slice none 0 0), 1, 24) := by kernel_rfl
theorem Apart.symm {u v : Value} (h : Apart u v) : Apart v u := by
  rcases h with h | h
  · cases hv : v.ownBlock with
    | none => exact .inl hv
    | some g => exact .inr (by rw [hv, h]; exact fun e => by cases e)
  · cases hv : v.ownBlock with
    | none => exact .inl hv
    | some g => exact .inr (by rw [hv]; rw [hv] at h; exact fun e => h e.symm)
theorem upd_self {α : Type} (f : Nat → α) (k : Nat) : upd f k (f k) = f := by
  funext i
  unfold upd
  split
  · rename_i h; rw [h]
  · rfl
theorem upd_upd {α : Type} (f : Nat → α) (k : Nat) (y z : α) : upd (upd f k y) k z = upd f k z := by
  funext i
  unfold upd
  split <;> rfl
theorem range_upd (ws : Nat → Value) (k : Nat) (u : Value) : (List.range (k + 1)).map (upd ws k u) = (List.range k).map ws ++ [u] := by
  rw [List.range_succ, List.map_append]
  congr 1
  · apply List.map_congr_left
    intro i hi
    exact upd_ne _ _ (by have := List.mem_range.1 hi; omega)
  · simp [upd]
theorem rep_of {l : List Nat} {n y : Nat} (hl : l.length = n) (h : ∀ j (hj : j < l.length), l[j] = y) : l = List.replicate n y := by
  apply List.ext_getElem
  · simp [hl]
  · intro i h1 h2; rw [List.getElem_replicate]; exact h i h1
theorem set_get {l : List Nat} {m y : Nat} (h : ∀ j (hj : j < l.length), j < m → l[j] = y) (j : Nat) (hj : j < (l.set m y).length) (hm : j < m + 1) : (l.set m y)[j] = y := by
  by_cases e : j = m
  · subst e; exact List.getElem_set_self _
  · rw [List.getElem_set_ne (Ne.symm e)]
    exact h j (by simpa using hj) (by omega)
theorem rep_succ (n a m b : Nat) : List.replicate n a ++ List.replicate m b ++ [b] = List.replicate n a ++ List.replicate (m + 1) b := by
  rw [List.append_assoc, List.replicate_succ']
theorem two_get {n a b j : Nat} (hj : j < (List.replicate n a ++ List.replicate 20 b).length) : (List.replicate n a ++ List.replicate 20 b)[j] = if j < n then a else b := by
  by_cases h : j < n
  · rw [if_pos h, List.getElem_append_left (by simpa using h), List.getElem_replicate]
  · rw [if_neg h, List.getElem_append_right (by simpa using h), List.getElem_replicate]
theorem Rd.stays' {κ : IntKind} {lo hi : Nat} {W W' : World} {A : Option Addr} {xs : List Nat} (h : Rd κ W A xs) (hs : Stays lo hi W W') (hA : 0 < xs.length → ∃ g, A = some ⟨g, 0, none⟩ ∧ lo ≤ g) (hh : W.heap.size ≤ hi) : Rd κ W' A xs := fun j hj => by
  obtain ⟨g, rfl, hg⟩ := hA (by omega)
  obtain ⟨g', o, e', hc⟩ := h j hj
  cases e'
  refine ⟨g, 0, rfl, ?_⟩
  rw [hs g _ hg (Nat.lt_of_lt_of_le (World.block_lt_of_cell? W _ hc) hh)]
  exact hc
theorem tail7 (xs : List Nat) (h : xs.length < (xs ++ [7, 8]).length) : (xs ++ [7, 8])[xs.length] = 7 := by simp
theorem tail8 (xs : List Nat) (h : xs.length + 1 < (xs ++ [7, 8]).length) : (xs ++ [7, 8])[xs.length + 1] = 8 := by
  rw [List.getElem_append_right (by omega)]
  simp
theorem natRes_len (n : Nat) : (natRes n).1.length ≤ 256 := by
  unfold natRes
  split
  · assumption
  · exact Nat.zero_le _
theorem res2_len (xs ys : List Nat) (n : Nat) : (res2 xs ys n).1.length ≤ 256 := by
  unfold res2
  split
  · exact natRes_len n
  · exact Nat.zero_le _
theorem dig_small {a n : Nat} (h : a < B32 ^ n) : (dig B32 a).length ≤ n := (dig_len_le (by decide) a n).2 h
theorem subRes_len {xs ys : List Nat} (hx : Lim B32 xs) : (subRes xs ys).1.length ≤ xs.length := by
  unfold subRes
  split
  · split
    · exact Nat.zero_le _
    · exact dig_small (Nat.lt_of_le_of_lt (Nat.sub_le _ _) (vl_lt hx))
  · exact Nat.zero_le _
theorem divRes_len {xs ys : List Nat} (hx : Lim B32 xs) : (divRes xs ys).1.length ≤ xs.length ∧ (divRes xs ys).2.1.length ≤ xs.length := by
  unfold divRes
  split
  · split
    · exact ⟨Nat.zero_le _, Nat.zero_le _⟩
    · exact ⟨dig_small (Nat.lt_of_le_of_lt (Nat.div_le_self _ _) (vl_lt hx)), dig_small (Nat.lt_of_le_of_lt (Nat.mod_le _ _) (vl_lt hx))⟩
  · exact ⟨Nat.zero_le _, Nat.zero_le _⟩
theorem shlRes_len {xs : List Nat} (hx : Lim B32 xs) (k : Nat) (hk : k ≤ 99) : (shlRes xs (k : Nat)).1.length ≤ xs.length + 4 := by
  unfold shlRes
  split
  · split
    · exact Nat.zero_le _
    · split
      · exact Nat.zero_le _
      · split
        · exact Nat.zero_le _
        · refine dig_small ?_
          rw [Nat.pow_add]
          refine Nat.mul_lt_mul'' (vl_lt hx) ?_
          have h1 : 2 ^ ((k : Nat) : Int).toNat ≤ 2 ^ 99 := Nat.pow_le_pow_right (by omega) (by omega)
          exact Nat.lt_of_le_of_lt h1 (by decide)
  · exact Nat.zero_le _

set_option maxRecDepth 100000 in
set_option maxHeartbeats 16000000 in
theorem natOwns_any (A A' : Option Addr) (ca cb : Nat) (xs ys : List Nat) (k0 : Int) (w : World) (hx : Lim B32 xs) (hy : Lim B32 ys) (hA : A = none → ca = 0) (hA' : A' = none → cb = 0) (hra : Rd .u32 w A xs) (hrb : Rd .u32 w A' ys) :
    Calls Tryd.prog 7 #[.slice A xs.length ca, .slice A' ys.length cb, .int .i64 k0] w fun e w' => e = .returned (.bool true) ∧ Below w.heap.size w w' := by
  have CF := Lib.hid (fixed_any w)
  by_cases hla : 400 < xs.length
  · go_enter Tryd.func7, Tryd.ntmps7
    go_wp2_with fail
    refine CF.out.mono ?_
    rintro e w0 ⟨rfl, hB⟩
    go_wp2
    go_ret
    exact ⟨rfl, hB⟩
  by_cases hlb : 400 < ys.length
  · go_enter Tryd.func7, Tryd.ntmps7
    go_wp2_with fail
    refine CF.out.mono ?_
    rintro e w0 ⟨rfl, hB⟩
    go_wp2
    go_ret
    exact ⟨rfl, hB⟩
  have hlx : xs.length ≤ 400 := by omega
  have hly : ys.length ≤ 400 := by omega
  obtain ⟨K, hK, hK9⟩ : ∃ K : Nat, min (max k0 0) 99 = (K : Int) ∧ K ≤ 99 := ⟨(min (max k0 0) 99).toNat, by omega, by omega⟩
  have hsev : ∀ W : World, Rd .u32 (W.alloc (.cells #[.int .u32 7, .int .u32 8] 47)) (some ⟨W.heap.size, 0, none⟩) [7, 8] := fun W => (own_pair W 7 8 47).rd
  have hemp : ∀ W : World, Own .u32 (W.alloc (.cells #[] 47)) W.heap.size 47 (.slice (some ⟨W.heap.size, 0, none⟩) 0 0) [] := fun W => World.ownsRow_lit (e := 47) (size := 1) W #[] 0 (Nat.le_refl _) (by decide) rfl
  have HSEV := Lib.hid hsev
  have HEMP := Lib.hid hemp
  clear hla hlb hsev hemp
  go_enter Tryd.func7, Tryd.ntmps7
  go_wp2_with fail
  refine CF.out.mono ?_
  rintro e w0 ⟨rfl, hB⟩
  clear CF
  have hb1 := (Below.refl w0.heap.size w0).alloc (Nat.le_refl _) (.cells #[] 47)
  go_wp2_with (at_builtin; refine wpList_append_rd rfl (.tmp 44) (.tmp 45) rfl w0.heap.size _ [] rfl (HEMP.out w0) A xs ca rfl hA (hra.below (hB.trans (hb1.mono hB.size))) ?c1 hb1.size ?_)
  case c1 => simp; omega
  intro v1 w1 hown1 hg1 _
  have hb2 : Below w0.heap.size w0 w1 := hb1.grown hg1 hb1.size (fun z e => (World.ownsRow.lt (HEMP.out w0) z e).1)
  clear hb1 hg1
  have hb3 := hb2.alloc hb2.size (.cells #[.int .u32 7, .int .u32 8] 47)
  go_wp2_with (at_builtin; refine wpList_append_rd rfl (.tmp 46) (.tmp 47) rfl w0.heap.size _ xs rfl (hown1.alloc _) _ [7, 8] 2 rfl (fun e => by cases e) (HSEV.out w1) ?c1 hb3.size ?_)
  case c1 => simp; omega
  intro v2 w2 hown2 hg2 _
  have hb4 : Below w0.heap.size w0 w2 := hb3.grown hg2 hb3.size (fun z e => (World.ownsRow.lt (hown1.alloc (.cells #[.int .u32 7, .int .u32 8] 47)) z e).1)
  clear hb2 hb3 hg2 hown1
  obtain ⟨gx, cx, rfl, hgx, hcx⟩ := hown2.form (by simp)
  have HOX := Lib.hid hown2
  have hBx := hB.trans (hb4.mono hB.size)
  have hlenx : (xs ++ [7, 8]).length = xs.length + 2 := by simp
  rw [hlenx] at HOX hcx ⊢
  clear hown2 hb4 hB hlenx
  have hB := hBx
  clear hBx
  have hb1 := (Below.refl w2.heap.size w2).alloc (Nat.le_refl _) (.cells #[] 47)
  go_wp2_with (at_builtin; refine wpList_append_rd rfl (.tmp 49) (.tmp 50) rfl w2.heap.size _ [] rfl (HEMP.out w2) A' ys cb rfl hA' (hrb.below (hB.trans (hb1.mono hB.size))) ?c1 hb1.size ?_)
  case c1 => simp; omega
  intro v1 w1 hown1 hg1 _
  have hb2 : Below w2.heap.size w2 w1 := hb1.grown hg1 hb1.size (fun z e => (World.ownsRow.lt (HEMP.out w2) z e).1)
  clear hb1 hg1
  have hb3 := hb2.alloc hb2.size (.cells #[.int .u32 7, .int .u32 8] 47)
  go_wp2_with (at_builtin; refine wpList_append_rd rfl (.tmp 51) (.tmp 52) rfl w2.heap.size _ ys rfl (hown1.alloc _) _ [7, 8] 2 rfl (fun e => by cases e) (HSEV.out w1) ?c1 hb3.size ?_)
  case c1 => simp; omega
  intro v2 w4 hown2 hg2 _
  have hb4 : Below w2.heap.size w2 w4 := hb3.grown hg2 hb3.size (fun z e => (World.ownsRow.lt (hown1.alloc (.cells #[.int .u32 7, .int .u32 8] 47)) z e).1)
  clear hb2 hb3 hg2 hown1
  obtain ⟨gy, cy, rfl, hgy, hcy⟩ := hown2.form (by simp)
  have HOY := Lib.hid hown2
  have HOX := Lib.hid (HOX.out.below hb4)
  have hBx := hB.trans (hb4.mono hB.size)
  have hleny : (ys ++ [7, 8]).length = ys.length + 2 := by simp
  rw [hleny] at HOY hcy ⊢
  clear hown2 hb4 hB hleny
  have hB := hBx
  clear hBx
  have hxc : xs.length ≤ cx := by omega
  have hyc : ys.length ≤ cy := by omega
  have hcx2 := hcx.2
  have hcy2 := hcy.2
  unfold maxLen at hcx2 hcy2
  go_wp2
  go_quiet (fail)
  obtain ⟨w5, hw5⟩ : ∃ w5, w4.drewN nq = w5 := ⟨_, rfl⟩
  have hB5 : Below w.heap.size w w5 := by rw [← hw5]; exact below_drewN' hB _
  have hOX : Own .u32 w5 w0.heap.size 47 (.slice (some ⟨gx, 0, none⟩) (xs.length + 2) cx) (xs ++ [7, 8]) := by rw [← hw5]; exact HOX.out
  have hOY : Own .u32 w5 w2.heap.size 47 (.slice (some ⟨gy, 0, none⟩) (ys.length + 2) cy) (ys ++ [7, 8]) := by rw [← hw5]; exact HOY.out
  rw [hw5]
  have hX0 := (hOX.take xs.length (by simp)).rd
  have hY0 := (hOY.take ys.length (by simp)).rd
  rw [List.take_left] at hX0 hY0
  have HOX := Lib.hid hOX
  have HOY := Lib.hid hOY
  clear hB hw5 hOX hOY hcx hcy
  have cS := fun (W : World) (h1 : Rd .u32 W (some ⟨gx, 0, none⟩) xs) (h2 : Rd .u32 W (some ⟨gy, 0, none⟩) ys) => add_any (some ⟨gx, 0, none⟩) (some ⟨gy, 0, none⟩) cx cy xs ys W hx hy (by omega) (by omega) h1 h2
  have cT := fun (W : World) (h1 : Rd .u32 W (some ⟨gx, 0, none⟩) xs) (h2 : Rd .u32 W (some ⟨gy, 0, none⟩) ys) => sub_any (some ⟨gx, 0, none⟩) (some ⟨gy, 0, none⟩) cx cy xs ys W hx hy (by omega) (by omega) (fun e => by cases e) h1 h2
  have cU := fun (W : World) (h1 : Rd .u32 W (some ⟨gx, 0, none⟩) xs) (h2 : Rd .u32 W (some ⟨gy, 0, none⟩) ys) => mul_any (some ⟨gx, 0, none⟩) (some ⟨gy, 0, none⟩) cx cy xs ys W hx hy (by omega) (by omega) h1 h2
  have cV := fun (W : World) (h1 : Rd .u32 W (some ⟨gx, 0, none⟩) xs) (h2 : Rd .u32 W (some ⟨gy, 0, none⟩) ys) => div_any (some ⟨gx, 0, none⟩) (some ⟨gy, 0, none⟩) cx cy xs ys W hx hy (by omega) (by omega) (fun e => by cases e) h1 h2
  have cZ := fun (W : World) (h1 : Rd .u32 W (some ⟨gx, 0, none⟩) xs) => shl_any (some ⟨gx, 0, none⟩) cx xs (K : Nat) W hx (by omega) (by omega) (by omega) h1
  have cG := fun (W : World) (h1 : Rd .u32 W A xs) (h2 : Rd .u32 W A' ys) => add_any A A' ca cb xs ys W hx hy (by omega) (by omega) h1 h2
  have n0 := res2_len xs ys (vl B32 xs + vl B32 ys)
  have n1 := subRes_len (ys := ys) hx
  have n2 := res2_len xs ys (vl B32 xs * vl B32 ys)
  obtain ⟨n3, n4⟩ := divRes_len (ys := ys) hx
  have n5 := shlRes_len hx K hK9
  obtain ⟨x0, h0⟩ : ∃ x, res2 xs ys (vl B32 xs + vl B32 ys) = x := ⟨_, rfl⟩
  obtain ⟨x1, h1⟩ : ∃ x, subRes xs ys = x := ⟨_, rfl⟩
  obtain ⟨x2, h2⟩ : ∃ x, res2 xs ys (vl B32 xs * vl B32 ys) = x := ⟨_, rfl⟩
  obtain ⟨x3, h3⟩ : ∃ x, divRes xs ys = x := ⟨_, rfl⟩
  obtain ⟨x5, h5⟩ : ∃ x, shlRes xs ((K : Nat) : Int) = x := ⟨_, rfl⟩
  rw [h0] at cS cG n0
  rw [h1] at cT n1
  rw [h2] at cU n2
  rw [h3] at cV n3 n4
  rw [h5] at cZ n5
  obtain ⟨l0, m0⟩ := x0
  obtain ⟨l1, m1⟩ := x1
  obtain ⟨l2, m2⟩ := x2
  obtain ⟨l3, l4, m3⟩ := x3
  obtain ⟨l5, m5⟩ := x5
  replace n0 : l0.length ≤ 500 := by simp only at n0; omega
  replace n1 : l1.length ≤ 500 := by simp only at n1; omega
  replace n2 : l2.length ≤ 500 := by simp only at n2; omega
  replace n3 : l3.length ≤ 500 := by simp only at n3; omega
  replace n4 : l4.length ≤ 500 := by simp only at n4; omega
  replace n5 : l5.length ≤ 500 := by simp only at n5; omega
  have CS := Lib.hid cS
  have CT := Lib.hid cT
  have CU := Lib.hid cU
  have CV := Lib.hid cV
  have CZ := Lib.hid cZ
  have CG := Lib.hid cG
  clear cS cT cU cV cZ cG h0 h1 h2 h3 h5
  have hD := Below.refl w5.heap.size w5
  go_wp2_with fail
  refine (CS.out _ (hX0.below hD) (hY0.below hD)).mono ?_
  rintro e d1 ⟨v0, rfl, o0, hn⟩
  replace o0 : Own .u32 d1 w5.heap.size 47 v0 l0 := o0
  have hD := hD.trans (hn.mono hD.size)
  clear hn
  have ds1 := hD.size
  go_wp2_with fail
  refine (CT.out _ (hX0.below hD) (hY0.below hD)).mono ?_
  rintro e d2 ⟨v1, rfl, o1, hn⟩
  replace o1 : Own .u32 d2 d1.heap.size 47 v1 l1 := o1
  have a01 : Apart v0 v1 := own_apart o0 (Nat.le_refl _) o1
  have o0 := o0.below hn
  have hD := hD.trans (hn.mono hD.size)
  clear hn
  have ds2 := hD.size
  go_wp2_with fail
  refine (CU.out _ (hX0.below hD) (hY0.below hD)).mono ?_
  rintro e d3 ⟨v2, rfl, o2, hn⟩
  replace o2 : Own .u32 d3 d2.heap.size 47 v2 l2 := o2
  have a02 : Apart v0 v2 := own_apart o0 (Nat.le_refl _) o2
  have a12 : Apart v1 v2 := own_apart o1 (Nat.le_refl _) o2
  have o0 := o0.below hn
  have o1 := o1.below hn
  have hD := hD.trans (hn.mono hD.size)
  clear hn
  have ds3 := hD.size
  go_wp2_with fail
  refine (CV.out _ (hX0.below hD) (hY0.below hD)).mono ?_
  rintro e d4 ⟨v3, v4, rfl, o3, o4, a34, hn⟩
  replace o3 : Own .u32 d4 d3.heap.size 47 v3 l3 := o3
  replace o4 : Own .u32 d4 d3.heap.size 47 v4 l4 := o4
  have a03 : Apart v0 v3 := own_apart o0 (Nat.le_refl _) o3
  have a04 : Apart v0 v4 := own_apart o0 (Nat.le_refl _) o4
  have a13 : Apart v1 v3 := own_apart o1 (Nat.le_refl _) o3
  have a14 : Apart v1 v4 := own_apart o1 (Nat.le_refl _) o4
  have a23 : Apart v2 v3 := own_apart o2 (Nat.le_refl _) o3
  have a24 : Apart v2 v4 := own_apart o2 (Nat.le_refl _) o4
  have o0 := o0.below hn
  have o1 := o1.below hn
  have o2 := o2.below hn
  have hD := hD.trans (hn.mono hD.size)
  clear hn
  have ds4 := hD.size
  have a34 : Apart v3 v4 := a34
  go_wp2_with fail
  refine (CZ.out _ (hX0.below hD)).mono ?_
  rintro e d5 ⟨v5, rfl, o5, hn⟩
  replace o5 : Own .u32 d5 d4.heap.size 47 v5 l5 := o5
  have a05 : Apart v0 v5 := own_apart o0 (Nat.le_refl _) o5
  have a15 : Apart v1 v5 := own_apart o1 (Nat.le_refl _) o5
  have a25 : Apart v2 v5 := own_apart o2 (Nat.le_refl _) o5
  have a35 : Apart v3 v5 := own_apart o3 (Nat.le_refl _) o5
  have a45 : Apart v4 v5 := own_apart o4 (Nat.le_refl _) o5
  have o0 := o0.below hn
  have o1 := o1.below hn
  have o2 := o2.below hn
  have o3 := o3.below hn
  have o4 := o4.below hn
  have hD := hD.trans (hn.mono hD.size)
  clear hn
  have ds5 := hD.size
  have hrows : Rows6 d5 w5.heap.size (fun i => [v0, v1, v2, v3, v4, v5].getD i undef) (fun i => [l0, l1, l2, l3, l4, l5].getD i []) := by
    refine ⟨fun i hi => ?_, fun i j hi hj hne => ?_⟩
    · rcases (by omega : i = 0 ∨ i = 1 ∨ i = 2 ∨ i = 3 ∨ i = 4 ∨ i = 5) with rfl | rfl | rfl | rfl | rfl | rfl
      · exact o0
      · exact o1.mono ds1
      · exact o2.mono ds2
      · exact o3.mono ds3
      · exact o4.mono ds3
      · exact o5.mono ds4
    · rcases (by omega : i = 0 ∨ i = 1 ∨ i = 2 ∨ i = 3 ∨ i = 4 ∨ i = 5) with rfl | rfl | rfl | rfl | rfl | rfl <;> rcases (by omega : j = 0 ∨ j = 1 ∨ j = 2 ∨ j = 3 ∨ j = 4 ∨ j = 5) with rfl | rfl | rfl | rfl | rfl | rfl
      all_goals first | exact absurd rfl hne | assumption | (refine Apart.symm ?_; assumption)
  obtain ⟨A0, c0, rfl, e0⟩ := o0.slice_
  obtain ⟨A1, c1, rfl, _⟩ := o1.slice_
  obtain ⟨A2, c2, rfl, _⟩ := o2.slice_
  obtain ⟨A3, c3, rfl, _⟩ := o3.slice_
  obtain ⟨A4, c4, rfl, _⟩ := o4.slice_
  obtain ⟨A5, c5, rfl, _⟩ := o5.slice_
  have R0 := Lib.hid o0.rd
  obtain ⟨vs, hvs⟩ : ∃ vs : Nat → Value, (fun i => [.slice A0 l0.length c0, .slice A1 l1.length c1, .slice A2 l2.length c2, .slice A3 l3.length c3, .slice A4 l4.length c4, .slice A5 l5.length c5].getD i undef) = vs := ⟨_, rfl⟩
  obtain ⟨L0, hL0⟩ : ∃ L0 : Nat → List Nat, (fun i => [l0, l1, l2, l3, l4, l5].getD i []) = L0 := ⟨_, rfl⟩
  have hL5 : ∀ i, i < 6 → (L0 i).length ≤ 500 := by
    rw [← hL0]
    intro i hi
    rcases (by omega : i = 0 ∨ i = 1 ∨ i = 2 ∨ i = 3 ∨ i = 4 ∨ i = 5) with rfl | rfl | rfl | rfl | rfl | rfl <;> assumption
  rw [hvs, hL0] at hrows
  obtain ⟨T, hTe⟩ : ∃ T, d5.heap.size = T := ⟨_, rfl⟩
  have hvT : ∀ i, i < 6 → ∀ g, (vs i).ownBlock = some g → w5.heap.size ≤ g ∧ g < T := fun i hi g e => by rw [← hTe]; exact hrows.lt hi e
  have hcl : ∀ i, i < 6 → (d5.alloc (.cells #[.slice A0 l0.length c0, .slice A1 l1.length c1, .slice A2 l2.length c2, .slice A3 l3.length c3, .slice A4 l4.length c4, .slice A5 l5.length c5] 22)).cell? ⟨T, i, none⟩ = some (vs i) := by
    intro i hi
    rw [← hTe, World.cell?_alloc_new, ← hvs]
    rcases (by omega : i = 0 ∨ i = 1 ∨ i = 2 ∨ i = 3 ∨ i = 4 ∨ i = 5) with rfl | rfl | rfl | rfl | rfl | rfl <;> rfl
  have hsz6 : (d5.alloc (.cells #[.slice A0 l0.length c0, .slice A1 l1.length c1, .slice A2 l2.length c2, .slice A3 l3.length c3, .slice A4 l4.length c4, .slice A5 l5.length c5] 22)).heap.size = T + 1 := by rw [← hTe]; simp
  have hE6 := HEMP.out (d5.alloc (.cells #[.slice A0 l0.length c0, .slice A1 l1.length c1, .slice A2 l2.length c2, .slice A3 l3.length c3, .slice A4 l4.length c4, .slice A5 l5.length c5] 22))
  rw [hsz6] at hE6
  have hD6 := (hD.alloc hD.size (.cells #[.slice A0 l0.length c0, .slice A1 l1.length c1, .slice A2 l2.length c2, .slice A3 l3.length c3, .slice A4 l4.length c4, .slice A5 l5.length c5] 22)).alloc (by have := hD.size; omega) (.cells #[] 47)
  have hR6 := R0.out.below ((((Below.refl d5.heap.size d5).alloc (Nat.le_refl _) (.cells #[.slice A0 l0.length c0, .slice A1 l1.length c1, .slice A2 l2.length c2, .slice A3 l3.length c3, .slice A4 l4.length c4, .slice A5 l5.length c5] 22)).alloc (by omega) (.cells #[] 47)))
  have hrows6 := (hrows.alloc (.cells #[.slice A0 l0.length c0, .slice A1 l1.length c1, .slice A2 l2.length c2, .slice A3 l3.length c3, .slice A4 l4.length c4, .slice A5 l5.length c5] 22)).alloc (.cells #[] 47)
  have hc6 : ∀ i, i < 6 → ((d5.alloc (.cells #[.slice A0 l0.length c0, .slice A1 l1.length c1, .slice A2 l2.length c2, .slice A3 l3.length c3, .slice A4 l4.length c4, .slice A5 l5.length c5] 22)).alloc (.cells #[] 47)).cell? ⟨T, i, none⟩ = some (vs i) := fun i hi => by
    rw [World.cell?_alloc_lt _ _ _ (by show T < _; omega)]
    exact hcl i hi
  have hTD : w5.heap.size ≤ T := by rw [← hTe]; exact hD.size
  have hs7 : T + 2 = ((d5.alloc (.cells #[.slice A0 l0.length c0, .slice A1 l1.length c1, .slice A2 l2.length c2, .slice A3 l3.length c3, .slice A4 l4.length c4, .slice A5 l5.length c5] 22)).alloc (.cells #[] 47)).heap.size := by rw [World.size_alloc, hsz6]
  have HVT := Lib.hid hvT
  have HL5 := Lib.hid hL5
  have HC6 := Lib.hid hc6
  have HRW := Lib.hid hrows6
  have HS7 := Lib.hid hs7
  have HTE := Lib.hid hTe
  clear CS CT CU CV CZ R0 hvs hL0 hL5 hvT hcl hsz6 hrows hrows6 hc6 hD hs7 ds1 ds2 ds3 ds4 o0 o1 o2 o3 o4 o5 a01 a02 a03 a04 a05 a12 a13 a14 a15 a23 a24 a25 a34 a35 a45
  go_wp2_with (at_builtin; refine wpList_append_rd rfl (.tmp 102) (.tmp 103) rfl (T + 1) _ [] rfl ?k0 A0 l0 c0 rfl e0 ?k3 ?k1 ?k2 ?_)
  case k0 => exact hE6
  case k3 => exact hR6
  case k1 => simp; omega
  case k2 => rw [← HS7.out]; omega
  intro kv w9 own9 hg9 _
  have hb9 : Below w5.heap.size w5 w9 := hD6.grown hg9 hD6.size (fun z e => by have := (World.ownsRow.lt hE6 z e).1; omega)
  have hs9 : T + 2 ≤ w9.heap.size := by rw [HS7.out]; exact hg9.size
  have hcl9 : ∀ i, i < 6 → w9.cell? ⟨T, i, none⟩ = some (vs i) := fun i hi => hg9.cell (HC6.out i hi) (by intro e; have e2 := Option.some.inj e; simp at e2)
  have rows9 : Rows6 w9 w5.heap.size vs L0 := HRW.out.kept hg9 (fun i hi => by
    cases hv : (vs i).ownBlock with
    | none => exact .inl rfl
    | some g =>
      refine .inr fun e => ?_
      have e2 : g = T + 1 := Option.some.inj e
      have := (HVT.out i hi g hv).2
      omega)
  obtain ⟨A9, c9, rfl, e9⟩ := own9.slice_
  have hk9 : ∀ W', Stays T w9.heap.size w9 W' → Rd .u32 W' A9 l0 := fun W' hst => by
    by_cases h0 : 0 < l0.length
    · obtain ⟨g, rfl, hg⟩ := own9.addr h0
      have := own9.lt.2
      exact Rd.stays own9 hst (by omega) this
    · have : l0 = [] := List.eq_nil_of_length_eq_zero (by omega)
      subst this
      exact Rd.nil
  have hA9 : 0 < l0.length → ∃ g, A9 = some ⟨g, 0, none⟩ ∧ T ≤ g := fun h => by
    obtain ⟨g, e, hg⟩ := own9.addr h
    exact ⟨g, e, by omega⟩
  have HA9 := Lib.hid hA9
  have HVF := Lib.hid (show ∀ i, i < 6 → ∃ A c, vs i = .slice A (L0 i).length c from fun i hi => by
    obtain ⟨A, c, e, _⟩ := (rows9.own i hi).slice_
    exact ⟨A, c, e⟩)
  have HK9 := Lib.hid hk9
  have HC9 := Lib.hid hcl9
  have HR9 := Lib.hid rows9
  clear own9 hg9 hD6 hR6 hE6 HC6 HRW HS7 hA9 hk9 hcl9 rows9 e0 HTE
  clear hTe
  go_wp2
  go_loopw [107] (fun i wr => ∃ (k : Nat) (Ms : Nat → List Nat), k ≤ 6 ∧ i = .int .i64 k ∧ Rows6 wr w5.heap.size vs Ms ∧ (∀ i, i < 6 → (Ms i).length = (L0 i).length) ∧ (∀ i, i < k → Ms i = List.replicate (L0 i).length (i + 100)) ∧ Stays T w9.heap.size w9 wr ∧ w9.heap.size ≤ wr.heap.size ∧ Below w5.heap.size w5 wr) (fun i _ => 6 - (RowKit.intOf i).toNat)
  case atStart => exact ⟨0, L0, by omega, rfl, HR9.out, fun _ _ => rfl, fun i h => absurd h (Nat.not_lt_zero _), Stays.refl _ _ _, Nat.le_refl _, hb9⟩
  case round =>
    clear hb9 HR9
    obtain ⟨k, Ms, hk, rfl, hR, hN, hM, hSt, hSz, hBw⟩ := hrel
    by_cases hk6 : k < 6
    · obtain ⟨Ak, ck, hvk, ek⟩ := (hR.own k hk6).slice_
      have hn5 := HL5.out k hk6
      rw [hN k hk6] at hvk
      have hck : wr.cell? ⟨T, k, none⟩ = some (.slice Ak (L0 k).length ck) := by rw [hSt T k (Nat.le_refl _) (by omega), HC9.out k hk6, hvk]
      have hlk := hN k hk6
      obtain ⟨n, hn⟩ : ∃ n, (L0 k).length = n := ⟨_, rfl⟩
      rw [hn] at hck hvk hn5 hlk
      have HN := Lib.hid hN
      have HM := Lib.hid hM
      have HVK := Lib.hid hvk
      have HNN := Lib.hid hn
      have HR := Lib.hid hR
      have HST := Lib.hid hSt
      have HLK := Lib.hid hlk
      clear hN hM hvk hn hR hSt hlk ek
      go_wp2
      obtain ⟨wo, rfl⟩ : ∃ wo : World, wo = wr := ⟨wr, rfl⟩
      go_loopw [115] (fun j wi => ∃ (m : Nat) (cur : List Nat), m ≤ n ∧ j = .int .i64 m ∧ Rows6 wi w5.heap.size vs (upd Ms k cur) ∧ cur.length = n ∧ (∀ j (hj : j < cur.length), j < m → cur[j] = k + 100) ∧ Stays T w9.heap.size w9 wi ∧ w9.heap.size ≤ wi.heap.size ∧ Below w5.heap.size w5 wi) (fun j _ => n - (RowKit.intOf j).toNat)
      case atStart => exact ⟨0, Ms k, Nat.zero_le _, rfl, by rw [upd_self]; exact HR.out, HLK.out, fun j _ h => absurd h (Nat.not_lt_zero _), HST.out, hSz, hBw⟩
      case round =>
        clear hck HR HST hSz hBw
        obtain ⟨m, cur, hm, rfl, hR, hcl, hcm, hSt, hSz, hBw⟩ := hrel
        have hck : wr.cell? ⟨T, k, none⟩ = some (.slice Ak n ck) := by rw [hSt T k (Nat.le_refl _) (by omega), HC9.out k hk6, HVK.out]
        by_cases hmn : m < n
        · have hok := hR.own k hk6
          rw [upd_same, HVK.out] at hok
          obtain ⟨g, rfl, hg⟩ := hok.addr (by omega)
          have hcg := hok.cell m (by omega)
          obtain ⟨d, hde⟩ : ∃ d, cur[m]'(by omega) = d := ⟨_, rfl⟩
          rw [hde] at hcg
          have hfz : wr.frozen? ⟨g, m, none⟩ = false := by
            have h2 := hok
            rw [← hcl] at h2
            exact h2.frozen m
          obtain ⟨hg1, hg2⟩ := HVT.out k hk6 g (by rw [HVK.out]; rfl)
          have hset := hR.set hk6 HVK.out m (k + 100)
          rw [upd_same, upd_upd] at hset
          have e100 : ((k + 100 : Nat) : Int) = (k : Int) + 100 := by omega
          rw [e100] at hset
          have HSET := Lib.hid hset
          have HST2 := Lib.hid (hSt.set (g := g) (j := m) (.inl hg2) (.int .u32 ((k : Int) + 100)))
          have HB2 := Lib.hid (hBw.setCell (p := ⟨g, m, none⟩) hg1 (.int .u32 ((k : Int) + 100)))
          have HSZ2 := Lib.hid (Nat.le_trans hSz (grown_set (j := m) (grown_refl wr (some g)) (.int .u32 ((k : Int) + 100))).size)
          have HCM := Lib.hid (fun j hj h => set_get hcm j hj h)
          have HCL := Lib.hid (show (cur.set m (k + 100)).length = n by rw [List.length_set]; exact hcl)
          have hwx : IntKind.u32.wrap ((k : Int) + 100) = (k : Int) + 100 := IntWalk.u32_in _ (by omega)
          clear hset hSt hBw hSz hcm hcl hok hR hde e100
          go_wp2
          clear hwx
          go_roundw
          case rel => exact ⟨m + 1, cur.set m (k + 100), hmn, by go_num, HSET.out, HCL.out, HCM.out, HST2.out, HSZ2.out, HB2.out⟩
          case measure => simp [RowKit.intOf]; omega
        · have hcr := rep_of hcl (fun j hj => hcm j hj (by omega))
          have HX := Lib.hid hcr
          have HR := Lib.hid hR
          have HST := Lib.hid hSt
          have hk1 : k + 1 ≤ 6 := hk6
          have HL2 := Lib.hid (show ∀ i, i < 6 → (upd Ms k cur i).length = (L0 i).length from fun i hi => by
            by_cases e : i = k
            · subst e; rw [upd_same, hcl, HNN.out]
            · rw [upd_ne _ _ e]; exact HN.out i hi)
          have HM2 := Lib.hid (show ∀ i, i < k + 1 → upd Ms k cur i = List.replicate (L0 i).length (i + 100) from fun i hi => by
            by_cases e : i = k
            · subst e; rw [upd_same, HX.out, HNN.out]
            · rw [upd_ne _ _ e]; exact HM.out i (by omega))
          clear hcr hR hSt hcl hcm
          go_wp2
          go_roundw
          case rel => exact ⟨k + 1, upd Ms k cur, hk1, by go_num, HR.out, HL2.out, HM2.out, HST.out, hSz, hBw⟩
          case measure => simp [RowKit.intOf]; omega
    · obtain rfl : k = 6 := by omega
      rw [show ((6 : Nat) : Int) = 6 from rfl]
      have HK9 := Lib.hid (show Rd .u32 wr A9 l0 from HK9.out wr hSt)
      have HC10 := Lib.hid (show ∀ i, i < 6 → wr.cell? ⟨T, i, none⟩ = some (vs i) from fun i hi => (hSt T i (Nat.le_refl _) (by omega)).trans (HC9.out i hi))
      have HM := Lib.hid hM
      have HR := Lib.hid hR
      clear hSt hN hM hR HC9
      obtain ⟨w10, hw10⟩ : ∃ w10 : World, w10 = wr := ⟨wr, rfl⟩
      subst hw10
      have hMr : ∀ i, i < 6 → Ms i = List.replicate (L0 i).length (i + 100) := HM.out
      have HMR := Lib.hid hMr
      clear hMr HM
      have hTz : T < w10.heap.size := by omega
      have hBT := hTD
      go_wp2
      go_loopw [26, 131] (fun gr i wr => ∃ (k : Nat) (ws : Nat → Value) (Ns : Nat → List Nat), k ≤ 6 ∧ i = .int .i64 k ∧ Rows6 wr w5.heap.size ws Ns ∧ (∀ i, i < k → Ns i = List.replicate (L0 i).length (i + 100) ++ List.replicate 20 (i + 200)) ∧ (∀ i, k ≤ i → i < 6 → ws i = vs i ∧ Ns i = List.replicate (L0 i).length (i + 100)) ∧ (∀ i, i < 6 → ∀ g, (ws i).ownBlock = some g → g < T ∨ w10.heap.size ≤ g) ∧ wr.ownsRow w10.heap.size 22 1 gr k ((List.range k).map ws) ∧ Stays T w10.heap.size w10 wr ∧ w10.heap.size ≤ wr.heap.size ∧ Below w5.heap.size w5 wr) (fun _ i _ => 6 - (RowKit.intOf i).toNat)
      case atStart => exact ⟨0, vs, Ms, by omega, rfl, HR.out, fun i h => absurd h (Nat.not_lt_zero _), fun i _ h => ⟨rfl, HMR.out i h⟩, fun i hi g e => .inl (HVT.out i hi g e).2, World.ownsRow_nil _ _ _ _, Stays.refl _ _ _, Nat.le_refl _, hBw⟩
      case round =>
        clear hBw HR HMR
        obtain ⟨k, ws, Ns, hk, rfl, hR, hN1, hN2, hgb, hgr, hSt, hSz, hBw⟩ := hrel
        by_cases hk6 : k < 6
        · obtain ⟨hwk, hnk⟩ := hN2 k (Nat.le_refl _) hk6
          obtain ⟨Ak, ck, hvk, ek⟩ := (hR.own k hk6).slice_
          have hn5 := HL5.out k hk6
          rw [hnk, List.length_replicate] at hvk
          have hck : wr.cell? ⟨T, k, none⟩ = some (.slice Ak (L0 k).length ck) := by rw [hSt T k (Nat.le_refl _) (by omega), HC10.out k hk6, ← hwk, hvk]
          obtain ⟨n, hn⟩ : ∃ n, (L0 k).length = n := ⟨_, rfl⟩
          rw [hn] at hck hvk hn5 hnk
          have HNN := Lib.hid hn
          have HVK := Lib.hid hvk
          have HNK := Lib.hid hnk
          have HN1 := Lib.hid hN1
          have HN2 := Lib.hid hN2
          have HGB := Lib.hid hgb
          have hstart : Rows6 wr w5.heap.size (upd ws k (.slice Ak n ck)) (upd Ns k (List.replicate n (k + 100) ++ List.replicate 0 (k + 200))) := by
            rw [List.replicate_zero, List.append_nil, ← hnk, upd_self, ← hvk, upd_self]; exact hR
          have hblk : ∀ g, (Value.slice Ak n ck).ownBlock = some g → g < T ∨ w10.heap.size ≤ g := fun g e => hgb k hk6 g (by rw [hvk]; exact e)
          have HRS := Lib.hid hstart
          have HBL := Lib.hid hblk
          have HGR := Lib.hid hgr
          have HST := Lib.hid hSt
          clear hn hvk hnk hN1 hN2 hgb hstart hblk hgr hSt hR hwk ek
          obtain ⟨i0, hi, hz0, hz1, hz2⟩ := info_parts info_u32
          have hdk : decide ((k : Int) < 6) = true := by simp; omega
          go_wp2
          obtain ⟨wo, rfl⟩ : ∃ wo : World, wo = wr := ⟨wr, rfl⟩
          go_loopw [28, 29] (fun u j wi => ∃ (m : Nat), m ≤ 20 ∧ j = .int .i64 m ∧ Rows6 wi w5.heap.size (upd ws k u) (upd Ns k (List.replicate n (k + 100) ++ List.replicate m (k + 200))) ∧ (∀ g, u.ownBlock = some g → g < T ∨ w10.heap.size ≤ g) ∧ wi.ownsRow w10.heap.size 22 1 u26 k ((List.range k).map ws) ∧ Stays T w10.heap.size w10 wi ∧ w10.heap.size ≤ wi.heap.size ∧ Below w5.heap.size w5 wi) (fun _ j _ => 20 - (RowKit.intOf j).toNat)
          case atStart => exact ⟨0, by omega, rfl, HRS.out, HBL.out, HGR.out, HST.out, hSz, hBw⟩
          case round =>
            clear hck HRS HBL HGR HST hSz hBw
            obtain ⟨m, hm, rfl, hR, hbl, hgr, hSt, hSz, hBw⟩ := hrel
            have hok := hR.own k hk6
            rw [upd_same, upd_same] at hok
            by_cases hmn : m < 20
            · obtain ⟨Au, cu, hu, eu⟩ := hok.slice_
              have hlen : (List.replicate n (k + 100) ++ List.replicate m (k + 200)).length = n + m := by simp
              have hown := hok.row (n := n + m) hlen
              have hBw2 := hBw.size
              have hap : u26.ownBlock = none ∨ u26.ownBlock ≠ u28.ownBlock := Apart.symm (row_types hok hgr (by decide))
              have hwx : IntKind.u32.wrap ((k : Int) + 200) = (k : Int) + 200 := IntWalk.u32_in _ (by omega)
              have HLEN := Lib.hid hlen
              have HR := Lib.hid hR
              have HGR := Lib.hid hgr
              have HST := Lib.hid hSt
              have HAP := Lib.hid hap
              have HBL := Lib.hid hbl
              have HU := Lib.hid hu
              clear hlen hR hgr hSt hap hbl hok eu hu
              go_wp2_with (at_builtin; refine wpList_append_own_at _ rfl _ _ 22 rfl w5.heap.size 47 i0 (.int .u32 0) 1 4 Tryd.underlying22 hi hz0 hz1 hz2 rfl (by decide) _ _ _ rfl (hown.alloc _) ⟨wr.heap.size, 0, none⟩ 1 1 _ rfl rfl (cell_one_new _ _ _) ?q2 ?q3 ?q4 ?q5 ?_)
              case q2 => simp [Value.oneCell']
              case q3 => unfold maxLen; omega
              case q4 => omega
              case q5 => first | omega | (simp; omega)
              intro v' w4 hown' hgrow _ hloc
              have e200 : ((k + 200 : Nat) : Int) = (k : Int) + 200 := by omega
              rw [← e200] at hown' hgrow
              have hO4 := Own.snoc (xs := List.replicate n (k + 100) ++ List.replicate m (k + 200)) hown' HLEN.out.symm
              rw [rep_succ] at hO4
              have hRa := HR.out.alloc (.cells #[.int .u32 ((k + 200 : Nat) : Int)] 47)
              have happ := hRa.app hk6 hO4 (by rw [upd_same]; exact hgrow) (by rw [upd_same, World.size_alloc]; exact hloc)
              rw [upd_upd, upd_upd] at happ
              have hgr4 := (HGR.out.alloc (.cells #[.int .u32 ((k + 200 : Nat) : Int)] 47)).kept hgrow HAP.out
              have hSa : Stays T w10.heap.size w10 (wr.alloc (.cells #[.int .u32 ((k + 200 : Nat) : Int)] 47)) := HST.out.grown (World.grownBy_alloc wr _ none) (fun r e => by cases e) hSz
              have hSt4 := hSa.grown hgrow (fun r e => HBL.out r e) (by simp; omega)
              have hBa := hBw.alloc hBw2 (.cells #[.int .u32 ((k + 200 : Nat) : Int)] 47)
              have hB4 : Below w5.heap.size w5 w4 := hBa.grown hgrow (by simp; omega) (fun z e => (hown.lt z e).1)
              have hsz4 : w10.heap.size ≤ w4.heap.size := by have := hgrow.size; simp at this; omega
              have hbl4 : ∀ g, v'.ownBlock = some g → g < T ∨ w10.heap.size ≤ g := fun g e => by
                rcases hloc with h | h
                · exact HBL.out g (by rw [← h]; exact e)
                · right
                  rw [h] at e
                  have e2 := Option.some.inj e
                  omega
              have H1 := Lib.hid happ
              have H2 := Lib.hid hbl4
              have H3 := Lib.hid hgr4
              have H4 := Lib.hid hSt4
              clear hown hown' hgrow hloc hO4 hRa happ hgr4 hSa hSt4 hBa hbl4 e200 hwx
              go_wp2
              go_roundw
              case rel =>
                exact ⟨m + 1, by omega, by go_num, H1.out, H2.out, H3.out, H4.out, hsz4, hB4⟩
              case measure => simp [RowKit.intOf]; omega
            · obtain rfl : m = 20 := by omega
              obtain ⟨Au, cu, hu, eu⟩ := hok.slice_
              rw [show (List.replicate n (k + 100) ++ List.replicate 20 (k + 200)).length = n + 20 by simp] at hu
              have hap : ∀ i, i < 6 → (upd ws k u28 i).ownBlock = none ∨ (upd ws k u28 i).ownBlock ≠ u26.ownBlock := fun i hi => row_types (hR.own i hi) hgr (by decide)
              obtain ⟨i1, hi', hz0', hz1', hz2'⟩ := info_parts info_row
              have hBw2 := hBw.size
              have hmk : wr.heap.size = (wr.alloc (.cells #[u28] 22)).heap.size - 1 := by rw [World.size_alloc]; omega
              have hN1b : ∀ i, i < k + 1 → upd Ns k (List.replicate n (k + 100) ++ List.replicate 20 (k + 200)) i = List.replicate (L0 i).length (i + 100) ++ List.replicate 20 (i + 200) := fun i hi => by
                by_cases e : i = k
                · subst e; rw [upd_same, HNN.out]
                · rw [upd_ne _ _ e]; exact HN1.out i (by omega)
              have hN2b : ∀ i, k + 1 ≤ i → i < 6 → upd ws k u28 i = vs i ∧ upd Ns k (List.replicate n (k + 100) ++ List.replicate 20 (k + 200)) i = List.replicate (L0 i).length (i + 100) := fun i h1 h2 => by
                rw [upd_ne _ _ (by omega), upd_ne _ _ (by omega)]; exact HN2.out i (by omega) h2
              have hgbb : ∀ i, i < 6 → ∀ g, (upd ws k u28 i).ownBlock = some g → g < T ∨ w10.heap.size ≤ g := fun i hi g e => by
                by_cases e2 : i = k
                · subst e2; rw [upd_same] at e; exact hbl g e
                · rw [upd_ne _ _ e2] at e; exact HGB.out i hi g e
              have HR := Lib.hid hR
              have HST := Lib.hid hSt
              have HAP := Lib.hid hap
              have H1 := Lib.hid hN1b
              have H2 := Lib.hid hN2b
              have H3 := Lib.hid hgbb
              have HU := Lib.hid hu
              clear hR hSt hap hbl hok eu hN1b hN2b hgbb hmk hu
              obtain ⟨u, hue⟩ : ∃ u, u28 = u := ⟨_, rfl⟩
              rw [hue] at HU HR HAP H2 H3
              rw [HU.out] at hue
              subst hue
              rw [HU.out] at HR HAP H2 H3
              go_wp2_with (at_builtin; refine wpList_append_own _ rfl _ _ 54 rfl w10.heap.size 22 i1 (.slice none 0 0) 1 24 Tryd.underlying54 hi' hz0' hz1' hz2' rfl (by decide) _ _ _ rfl (hgr.alloc _) ⟨wr.heap.size, 0, none⟩ 1 1 _ rfl rfl (cell_one_new _ _ _) ?q2 ?q3 ?q4 ?q5 ?_)
              case q2 => simp [Value.oneCell']
              case q3 => unfold maxLen; omega
              case q4 => omega
              case q5 => first | omega | (simp; omega)
              intro v' w4 hown' hgrow _
              rw [← range_upd] at hown'
              have hR4 := (HR.out.alloc (.cells #[.slice Au (n + 20) cu] 22)).kept hgrow (fun i hi => HAP.out i hi)
              have hSa : Stays T w10.heap.size w10 (wr.alloc (.cells #[.slice Au (n + 20) cu] 22)) := HST.out.grown (World.grownBy_alloc wr _ none) (fun r e => by cases e) hSz
              have hSt4 := hSa.grown hgrow (fun r e => .inr (hgr.lt r e).1) (by simp; omega)
              have hB4 : Below w5.heap.size w5 w4 := (hBw.alloc hBw2 _).grown hgrow (by simp; omega) (fun z e => by have := (hgr.lt z e).1; omega)
              have hsz4 : w10.heap.size ≤ w4.heap.size := by have := hgrow.size; simp at this; omega
              have K1 := Lib.hid hown'
              have K2 := Lib.hid hR4
              have K3 := Lib.hid hSt4
              clear hown' hgrow hR4 hSa hSt4 hgr
              go_wp2
              go_roundw
              case rel => exact ⟨k + 1, upd ws k _, upd Ns k _, by omega, by go_num, K2.out, H1.out, H2.out, H3.out, K1.out, K3.out, hsz4, hB4⟩
              case measure => simp [RowKit.intOf]; omega
        · obtain rfl : k = 6 := by omega
          rw [show ((6 : Nat) : Int) = 6 from rfl]
          obtain ⟨gg, cg, hgv⟩ : ∃ gg cg, u26 = .slice (some ⟨gg, 0, none⟩) 6 cg := by
            rcases hgr.2 with ⟨_, h⟩ | ⟨g, cap, cur, e, _⟩
            · omega
            · exact ⟨g, cap, e⟩
          have hgc : ∀ i, i < 6 → wr.cell? ⟨gg, i, none⟩ = some (ws i) := fun i hi => by
            have h := hgr
            rw [hgv] at h
            rw [World.ownsRow.cellAt h i (by omega)]
            simp [List.getElem?_range, hi]
          have HLC := Lib.hid (show ∀ i, i < 6 → wr.cell? ⟨T, i, none⟩ = some (vs i) from fun i hi => (hSt T i (Nat.le_refl _) (by omega)).trans (HC10.out i hi))
          have HKF := Lib.hid (HK9.out.stays' hSt HA9.out (Nat.le_refl _))
          have HGC := Lib.hid hgc
          have HFIN := Lib.hid hN1
          have HR := Lib.hid hR
          subst hgv
          clear hgc hN1 hN2 hgb hgr hSt hSz hR HC10 HK9
          go_wp2
          go_loop [155] (fun i => ∃ k : Nat, k ≤ 6 ∧ i = .int .i64 k) (fun i => 6 - (RowKit.intOf i).toNat)
          case atStart => exact ⟨0, by omega, rfl⟩
          case round =>
            obtain ⟨k, hk, rfl⟩ := hrel
            by_cases hk6 : k < 6
            · have hok := HR.out.own k hk6
              rw [HFIN.out k hk6] at hok
              obtain ⟨Al, cl, hvl⟩ := HVF.out k hk6
              have hn5 := HL5.out k hk6
              have hlc := HLC.out k hk6
              have hgc := HGC.out k hk6
              obtain ⟨n, hn⟩ : ∃ n, (L0 k).length = n := ⟨_, rfl⟩
              rw [hn] at hok hvl hn5
              obtain ⟨Ag, cg2, hwk, _⟩ := hok.slice_
              rw [show (List.replicate n (k + 100) ++ List.replicate 20 (k + 200)).length = n + 20 by simp] at hwk
              rw [hvl] at hlc
              rw [hwk] at hgc hok
              obtain ⟨g, rfl, _⟩ := hok.addr (by simp)
              have HOK := Lib.hid hok
              have hdk : decide ((k : Int) < 6) = true := by simp; omega
              clear hok hvl hwk hn
              go_wp2
              go_loop [163] (fun j => ∃ m : Nat, m ≤ n + 20 ∧ j = .int .i64 m) (fun j => n + 20 - (RowKit.intOf j).toNat)
              case atStart => exact ⟨0, Nat.zero_le _, rfl⟩
              case round =>
                obtain ⟨m, hm, rfl⟩ := hrel
                by_cases hmn : m < n + 20
                · have hcm := HOK.out.cell m (by simp; omega)
                  rw [two_get] at hcm
                  have hw1 : IntKind.u32.wrap ((k : Int) + 100) = (k : Int) + 100 := IntWalk.u32_in _ (by omega)
                  have hw2 : IntKind.u32.wrap ((k : Int) + 200) = (k : Int) + 200 := IntWalk.u32_in _ (by omega)
                  by_cases hml : m < n
                  · rw [if_pos hml, show ((k + 100 : Nat) : Int) = (k : Int) + 100 by omega] at hcm
                    have hge : ¬ (n : Int) ≤ (m : Int) := by omega
                    go_wp2
                    clear hw1 hw2 hcm
                    go_round
                    case rel => exact ⟨m + 1, by omega, by go_num⟩
                    case measure => simp [RowKit.intOf]; omega
                  · rw [if_neg hml, show ((k + 200 : Nat) : Int) = (k : Int) + 200 by omega] at hcm
                    have hge : (n : Int) ≤ (m : Int) := by omega
                    go_wp2
                    clear hw1 hw2 hcm
                    go_round
                    case rel => exact ⟨m + 1, by omega, by go_num⟩
                    case measure => simp [RowKit.intOf]; omega
                · clear hlc hgc
                  go_wp2
                  go_round
                  case rel => exact ⟨k + 1, by omega, by go_num⟩
                  case measure => simp [RowKit.intOf]; omega
            · obtain rfl : k = 6 := by omega
              rw [show ((6 : Nat) : Int) = 6 from rfl]
              have hB0 := hB5.trans (hBw.mono hB5.size)
              clear HLC HGC HFIN HR HVF HL5
              go_wp2_with fail
              refine (CG.out _ (hra.below hB0) (hrb.below hB0)).mono ?_
              rintro e f1 ⟨vg, rfl, og, hn⟩
              replace og : Own .u32 f1 wr.heap.size 47 vg l0 := og
              obtain ⟨Aa, ca2, rfl, _⟩ := og.slice_
              have hD1 := hBw.trans (hn.mono hBw.size)
              have hBf := hB0.trans (hn.mono hB0.size)
              have QA := Lib.hid og.rd
              have QK := Lib.hid (HKF.out.below hn)
              clear og hn CG HKF
              go_wp2_with fail
              refine (same_yes (some ⟨gx, 0, none⟩) A cx ca xs f1 (by omega) (hX0.below hD1) (hra.below hBf)).mono ?_
              rintro e f2 ⟨rfl, nd1, hm1⟩
              have hn : Below f1.heap.size f1 f2 := by rw [hm1]; exact below_drewN' (Below.refl _ _) nd1
              have hD1 := hD1.trans (hn.mono hD1.size)
              have hBf := hBf.trans (hn.mono hBf.size)
              have QA := Lib.hid (QA.out.below hn)
              have QK := Lib.hid (QK.out.below hn)
              clear hn hm1
              go_wp2_with fail
              refine (same_yes (some ⟨gy, 0, none⟩) A' cy cb ys f2 (by omega) (hY0.below hD1) (hrb.below hBf)).mono ?_
              rintro e f3 ⟨rfl, nd2, hm2⟩
              have hn : Below f2.heap.size f2 f3 := by rw [hm2]; exact below_drewN' (Below.refl _ _) nd2
              have hD1 := hD1.trans (hn.mono hD1.size)
              have hBf := hBf.trans (hn.mono hBf.size)
              have QA := Lib.hid (QA.out.below hn)
              have QK := Lib.hid (QK.out.below hn)
              clear hn hm2
              have b1 := (HOX.out.below hD1).cell xs.length (by simp)
              have b2 := (HOX.out.below hD1).cell (xs.length + 1) (by simp)
              have b3 := (HOY.out.below hD1).cell ys.length (by simp)
              have b4 := (HOY.out.below hD1).cell (ys.length + 1) (by simp)
              rw [tail7] at b1 b3
              rw [tail8] at b2 b4
              go_wp2_with fail
              refine (same_yes Aa A9 ca2 c9 l0 f3 (by omega) QA.out QK.out).mono ?_
              rintro e f4 ⟨rfl, nd3, hm3⟩
              have hn : Below f3.heap.size f3 f4 := by rw [hm3]; exact below_drewN' (Below.refl _ _) nd3
              have hBf := hBf.trans (hn.mono hBf.size)
              clear hn hm3
              go_wp2
              go_ret
              exact ⟨rfl, hBf⟩
end Go.Proofs.YtflnackpkcldjaaDoor
