/- Several texts in one (The laws of layer 14: the fixed examples; what both have and what one of them has; Contracts of layer 14's definition: a seed's state, the next one; the same floats; The law DiceApart: two dice of one seed; The law DiceRolls: numbers behind seeds; A slice of words that came in, opened and shut). -/
import Derived.RegionTactic
import Derived.ChangeAlike
import Derived.Lib.LazyBuf
import Derived.Lib.BufferRead
import Derived.WalkSpells
import Derived.WalkLawsBesides
import Derived.Deep.RegionWith
import Derived.Test.YtelhbkfhalpniaaShelf
import Derived.Deep.QuietTactic
import Derived.BigQuiet
import Derived.Laws.BitsAllLaws
import Derived.Laws.MakeOwn
import Derived.Maps.AppendAt
import Derived.Laws.AppendOwnNone
import Derived.RangeFuncBox
import Derived.Outline
import Derived.Lib.BitFns
import Derived.Deep.RegionHeld3
import Derived.OpenShut
import Derived.ChangeShapes
import Derived.WideShapes
import Derived.Test.YtelhbkfhalpniaaQd1
namespace Go.Proofs.Ytelhbkfhalpniaa
open Go.RowKit Go.Lib Go.Joins

theorem di_f12 : fw 12 = 4622945017495814144 := by decide +kernel
theorem di_f10 : fw 10 = 4621819117588971520 := by decide +kernel
theorem di_f6 : fw 6 = 4618441417868443648 := by decide +kernel
theorem di_d1 : fd (stepN (seedN 0)) = 4406209285428609024 := by decide +kernel
theorem di_d2 : fd (stepN (stepN (seedN 0))) = 4562187153742659584 := by decide +kernel
theorem di_xor (w : World) : Calls Try.prog 18 #[.float .f64 4622945017495814144, .float .f64 4621819117588971520] w fun e w' => e = .returned (.tuple #[.float .f64 4618441417868443648, .int .i64 0]) ∧ w = w' := by
  have h1 := okW_fw (m := 12) (Q := 9007199254740991) (by omega) (by omega)
  have h2 := okW_fw (m := 10) (Q := 9007199254740991) (by omega) (by omega)
  rw [di_f12, fw_top] at h1
  rw [di_f10, fw_top] at h2
  have h := xor_yes _ _ w (by omega) (by omega) h1.1 h2.1
  rw [h1.2, h2.2, show 12 ^^^ 10 = 6 by decide, di_f6] at h
  exact h
set_option maxRecDepth 100000 in
set_option maxHeartbeats 1000000 in
theorem dfixed_any (w : World) : Calls Try.prog 7 #[] w fun e w' => e = .returned (.bool true) ∧ Below w.heap.size w w' := by
  have CN := Lib.hid (new_any_di 0 w (by omega))
  have CT := Lib.hid (fun (W : World) (x s : Nat) (hd : W.heap[w.heap.size]? = some (diceO x s)) => next_any_di w.heap.size x s W hd)
  obtain ⟨g, hg⟩ : ∃ g, w.heap.size = g := ⟨_, rfl⟩
  rw [hg] at CN CT ⊢
  have CX := Lib.hid di_xor
  have o1 : (FloatKind.f64.format.order 4406209285428609024 4406209285428609024 == some .eq) = true := by decide +kernel
  have o2 : (FloatKind.f64.format.order 4562187153742659584 4562187153742659584 == some .eq) = true := by decide +kernel
  have o3 : (FloatKind.f64.format.order 4618441417868443648 4618441417868443648 == some .eq) = true := by decide +kernel
  clear hg
  go_enter Try.func7, Try.ntmps7
  go_wp2_with fail
  refine CN.out.mono ?_
  rintro e w1 ⟨rfl, hd, hs, hB⟩
  have HB := Lib.hid hB
  clear hs hB
  go_wp2_with fail
  refine (CT.out _ _ _ hd).mono ?_
  rintro e w2 ⟨rfl, h2⟩
  rw [di_d1]
  have HB := Lib.hid (HB.out.trans (h2.below g (Nat.le_refl _)))
  have hd2 := h2.is
  clear hd h2
  go_wp2_with fail
  refine (CT.out _ _ _ hd2).mono ?_
  rintro e w3 ⟨rfl, h2⟩
  rw [di_d2]
  have HB := Lib.hid (HB.out.trans (h2.below g (Nat.le_refl _)))
  clear hd2 h2
  go_wp2_with fail
  refine (CX.out _).mono ?_
  rintro e w' ⟨rfl, rfl⟩
  go_wp2_with fail
  go_ret
  exact ⟨rfl, HB.out⟩
theorem low53 (n : Int) : bits .and .i64 n 9007199254740991 = n % 9007199254740992 := by
  have h127 : (BitVec.ofInt 64 9007199254740991).toNat = 2 ^ 53 - 1 := by decide
  have key : (BitVec.ofInt 64 n &&& BitVec.ofInt 64 9007199254740991).toNat = (n % ((2 ^ 64 : Nat) : Int)).toNat % 2 ^ 53 := by
    rw [BitVec.toNat_and, BitVec.toNat_ofInt, h127, Nat.and_two_pow_sub_one_eq_mod]
  show IntKind.i64.wrap ((BitVec.ofInt 64 n &&& BitVec.ofInt 64 9007199254740991).toNat : Nat) = n % 9007199254740992
  rw [key, IntKind.wrap_i64]
  omega
theorem di_eq {m : Nat} (h : m < 9007199254740992) : (FloatKind.f64.format.order (fw m) (fw m) == some .eq) = true := by
  have := fw_bd h
  rw [order_self_eq (by omega) (by omega)]
  exact decide_eq_true rfl
theorem di_int {m : Nat} (h : m < 9007199254740992) : floatToIntVal .f64 (fw m) .i64 = some (m : Int) := by
  have hb := fw_bd h
  have h1 := int_of_wh (b := fw m) (by rw [fw_mag h]; omega) (by rw [fw_mag h, (wh_fw h).1]; omega)
  rw [whZ, if_pos (by unfold sgn; omega), fw_mag h, (wh_fw h).1] at h1
  exact h1
set_option maxRecDepth 100000 in
set_option maxHeartbeats 2000000 in
theorem diceLogic_any (a b : Int) (w : World) : Calls Try.prog 6 #[.int .i64 a, .int .i64 b] w fun e w' => e = .returned (.bool true) ∧ Below w.heap.size w w' := by
  have ea := low53 a
  have eb := low53 b
  obtain ⟨m, hm, hma⟩ : ∃ m : Nat, m < 9007199254740992 ∧ a % 9007199254740992 = (m : Int) := ⟨(a % 9007199254740992).toNat, by omega, by omega⟩
  obtain ⟨n, hn, hnb⟩ : ∃ n : Nat, n < 9007199254740992 ∧ b % 9007199254740992 = (n : Int) := ⟨(b % 9007199254740992).toNat, by omega, by omega⟩
  rw [hma] at ea
  rw [hnb] at eb
  have fm : floatOfInt .f64 (m : Int) = fw m := float_nat hm
  have fn : floatOfInt .f64 (n : Int) = fw n := float_nat hn
  have om := okW_fw (m := m) (Q := 9007199254740991) (by omega) (by omega)
  have on := okW_fw (m := n) (Q := 9007199254740991) (by omega) (by omega)
  rw [fw_top] at om on
  have bm := fw_bd hm
  have bn := fw_bd hn
  have C1 := fun W => and_yes (fw m) (fw n) W (by omega) (by omega) om.1 on.1
  have C2 := fun W => or_yes (fw m) (fw n) W (by omega) (by omega) om.1 on.1
  have C3 := fun W => xor_yes (fw m) (fw n) W (by omega) (by omega) om.1 on.1
  have C4 := fun W => not_yes (fw m) W (by omega) om.1
  rw [om.2, on.2] at C1 C2 C3
  rw [om.2] at C4
  have hk : 9007199254740991 - m < 9007199254740992 := by omega
  have ok := okW_fw (m := 9007199254740991 - m) (Q := 9007199254740991) (by omega) (by omega)
  rw [fw_top] at ok
  have bk := fw_bd hk
  have C5 := fun W => not_yes (fw (9007199254740991 - m)) W (by omega) ok.1
  rw [ok.2, show 9007199254740991 - (9007199254740991 - m) = m by omega] at C5
  have h1 := land_lor m n
  have h2 := land_lxor m n
  have l1 := land_lt (b := n) hm
  have l2 := lor_lt hm hn
  have l3 := lxor_lt hm hn
  obtain ⟨p, hp⟩ : ∃ p, m &&& n = p := ⟨_, rfl⟩
  obtain ⟨q, hq⟩ : ∃ q, m ||| n = q := ⟨_, rfl⟩
  obtain ⟨r, hr⟩ : ∃ r, m ^^^ n = r := ⟨_, rfl⟩
  rw [hp] at h1 h2 l1 C1
  rw [hq] at h1 h2 l2 C2
  rw [hr] at h2 l3 C3
  have v1 := di_int l1
  have v2 := di_int l2
  have v3 := di_int hm
  have v4 := di_int hn
  have hadd := fw_add (p := p) (r := r) (by omega)
  rw [h2] at hadd
  have c1 := di_eq l2
  have c2 := di_eq hm
  obtain ⟨fp, hfp⟩ : ∃ x, fw p = x := ⟨_, rfl⟩
  obtain ⟨fq, hfq⟩ : ∃ x, fw q = x := ⟨_, rfl⟩
  obtain ⟨fr, hfr⟩ : ∃ x, fw r = x := ⟨_, rfl⟩
  obtain ⟨fM, hfm⟩ : ∃ x, fw m = x := ⟨_, rfl⟩
  obtain ⟨fN, hfn⟩ : ∃ x, fw n = x := ⟨_, rfl⟩
  obtain ⟨fk, hfk⟩ : ∃ x, fw (9007199254740991 - m) = x := ⟨_, rfl⟩
  rw [hfp] at C1 v1 hadd
  rw [hfq] at C2 v2 hadd c1
  rw [hfr] at C3 hadd
  rw [hfm] at fm C1 C2 C3 C4 C5 v3 c2
  rw [hfn] at fn C1 C2 C3 v4
  rw [hfk] at C4 C5
  have cv : ∀ {x : Nat} {z : Int}, floatToIntVal .f64 x .i64 = some z → ∀ W, (convert 26 3 (.float .f64 x)).run Try.prog W = .ok (.int .i64 z) W := fun h W => run_convert_float_int W 26 3 .f64 .i64 _ _ (by rw [Try.underlying26]; rfl) Try.underlying3 h
  have v1 := cv v1
  have v2 := cv v2
  have v3 := cv v3
  have v4 := cv v4
  have ha : ∀ t W, (binOp .add t (.float .f64 fp) (.float .f64 fr)).run Try.prog W = .ok (.float .f64 fq) W := fun t W => run_float_arith W .add t .f64 _ _ _ hadd
  have s1 : IntKind.i64.wrap ((p : Int) + q) = (p : Int) + q := by rw [IntKind.wrap_i64]; omega
  have s2 : IntKind.i64.wrap ((m : Int) + n) = (p : Int) + q := by rw [IntKind.wrap_i64]; omega
  have CX := Lib.hid (dfixed_any w)
  have C1 := Lib.hid C1
  have C2 := Lib.hid C2
  have C3 := Lib.hid C3
  have C4 := Lib.hid C4
  have C5 := Lib.hid C5
  clear hma hnb om on ok bm bn bk hk h1 h2 l1 l2 l3 hp hq hr hadd hfp hfq hfr hfm hfn hfk cv hm hn
  go_enter Try.func6, Try.ntmps6
  go_wp2_with fail
  refine CX.out.mono ?_
  rintro e w1 ⟨rfl, hB⟩
  have HB := Lib.hid hB
  clear hB
  go_wp2_with fail
  refine (C1.out _).mono ?_
  rintro e w' ⟨rfl, rfl⟩
  go_wp2_with fail
  refine (C2.out _).mono ?_
  rintro e w' ⟨rfl, rfl⟩
  go_wp2_with fail
  refine (C3.out _).mono ?_
  rintro e w' ⟨rfl, rfl⟩
  go_wp2_with fail
  refine (C4.out _).mono ?_
  rintro e w' ⟨rfl, rfl⟩
  go_wp2_with fail
  refine (C5.out _).mono ?_
  rintro e w' ⟨rfl, rfl⟩
  go_wp2_with fail
  go_ret
  exact ⟨rfl, HB.out⟩
end Go.Proofs.Ytelhbkfhalpniaa

namespace Go.Proofs.Ytelhbkfhalpniaa
open Go.RowKit Go.Lib Go.Joins

set_option maxRecDepth 100000 in
set_option maxHeartbeats 1000000 in
theorem rstate_any (x : Nat) (w : World) (hx : x < 18446744073709551616) : Calls Try.prog 9 #[.float .f64 x] w fun e w' => e = .returned (.int .i64 (seedN x : Nat)) ∧ w = w' := by
  have hf := run_f64bits x w
  cases h : nanB x
  · have hs := seedN_num h
    have ho : (FloatKind.f64.format.order x x != some .eq) = false := h
    have h1 := u64_xor_nat x (x / 65536) hx (by omega)
    have h3 : x ^^^ (x / 65536) < 18446744073709551616 := Nat.xor_lt_two_pow (n := 64) hx (by omega)
    have hy0 : IntKind.u64.wrap ((x / 65536 : Nat) : Int) = ((x / 65536 : Nat) : Int) := by rw [IntKind.wrap_u64]; omega
    have h2 : ((x : Int)).tdiv 65536 = ((x / 65536 : Nat) : Int) := by rw [Int.tdiv_eq_ediv_of_nonneg (by omega)]; omega
    obtain ⟨z, hz⟩ : ∃ z, x ^^^ (x / 65536) = z := ⟨_, rfl⟩
    obtain ⟨y, hy⟩ : ∃ y, x / 65536 = y := ⟨_, rfl⟩
    rw [hz] at hs h1 h3
    rw [hy] at h1 h2 hy0
    obtain ⟨m, hm⟩ : ∃ m, seedN x = m := ⟨_, rfl⟩
    have h4 : ((z : Int)).tmod 281474976710656 = (m : Int) := by rw [Int.tmod_eq_emod_of_nonneg (by omega), ← hm, hs]; omega
    have h5 : IntKind.i64.wrap (m : Int) = (m : Int) := by rw [IntKind.wrap_i64]; omega
    rw [hm]
    clear hs hz hy hm h h3
    go_enter Try.func9, Try.ntmps9
    go_wp2
    go_ret
    exact ⟨rfl, rfl⟩
  · have ho : (FloatKind.f64.format.order x x != some .eq) = true := h
    rw [seedN_nan h]
    clear h
    go_enter Try.func9, Try.ntmps9
    go_wp2
    go_ret
    exact ⟨rfl, rfl⟩
set_option maxRecDepth 100000 in
set_option maxHeartbeats 1000000 in
theorem rstep_any (s : Nat) (w : World) (hs : s < 281474976710656) : Calls Try.prog 10 #[.int .i64 (s : Int)] w fun e w' => e = .returned (.int .i64 (stepN s : Nat)) ∧ w = w' := by
  obtain ⟨lo, hlo⟩ : ∃ lo : Nat, s % 16777216 = lo := ⟨_, rfl⟩
  obtain ⟨hi, hhi⟩ : ∃ hi : Nat, s / 16777216 = hi := ⟨_, rfl⟩
  have e1 : ((s : Int)).tmod 16777216 = (lo : Int) := by rw [Int.tmod_eq_emod_of_nonneg (by omega)]; omega
  have e2 : ((s : Int)).tdiv 16777216 = (hi : Int) := by rw [Int.tdiv_eq_ediv_of_nonneg (by omega)]; omega
  have w0 : IntKind.i64.wrap (hi : Int) = (hi : Int) := by rw [IntKind.wrap_i64]; omega
  have w1 : IntKind.i64.wrap ((lo : Int) * 1502) = (lo : Int) * 1502 := by rw [IntKind.wrap_i64]; omega
  have w2 : IntKind.i64.wrap ((hi : Int) * 15525485) = (hi : Int) * 15525485 := by rw [IntKind.wrap_i64]; omega
  have w3 : IntKind.i64.wrap ((lo : Int) * 1502 + (hi : Int) * 15525485) = (lo : Int) * 1502 + (hi : Int) * 15525485 := by rw [IntKind.wrap_i64]; omega
  obtain ⟨mid, hmid⟩ : ∃ mid : Nat, (lo * 1502 + hi * 15525485) % 16777216 = mid := ⟨_, rfl⟩
  have e3 : ((lo : Int) * 1502 + (hi : Int) * 15525485).tmod 16777216 = (mid : Int) := by rw [Int.tmod_eq_emod_of_nonneg (by omega)]; omega
  have w4 : IntKind.i64.wrap ((lo : Int) * 15525485) = (lo : Int) * 15525485 := by rw [IntKind.wrap_i64]; omega
  have w5 : IntKind.i64.wrap ((mid : Int) * 16777216) = (mid : Int) * 16777216 := by rw [IntKind.wrap_i64]; omega
  have w6 : IntKind.i64.wrap ((lo : Int) * 15525485 + (mid : Int) * 16777216) = (lo : Int) * 15525485 + (mid : Int) * 16777216 := by rw [IntKind.wrap_i64]; omega
  have w7 : IntKind.i64.wrap ((lo : Int) * 15525485 + (mid : Int) * 16777216 + 11) = (lo : Int) * 15525485 + (mid : Int) * 16777216 + 11 := by rw [IntKind.wrap_i64]; omega
  obtain ⟨z, hz⟩ : ∃ z, stepN s = z := ⟨_, rfl⟩
  have e4 : ((lo : Int) * 15525485 + (mid : Int) * 16777216 + 11).tmod 281474976710656 = (z : Int) := by
    rw [Int.tmod_eq_emod_of_nonneg (by omega), ← hz]
    unfold stepN
    omega
  rw [hz]
  clear hlo hhi hmid hz hs
  go_enter Try.func10, Try.ntmps10
  go_wp2
  go_ret
  exact ⟨rfl, rfl⟩
set_option maxRecDepth 100000 in
set_option maxHeartbeats 1000000 in
theorem dsame_any (x : Nat) (w : World) : Calls Try.prog 14 #[.float .f64 x, .float .f64 x] w fun e w' => e = .returned (.bool true) ∧ w = w' := by
  have b1 := fun W => run_f64bits x W
  cases h : nanB x
  · have t1 : (FloatKind.f64.format.order x x != some .eq) = false := h
    clear h
    go_enter Try.func14, Try.ntmps14
    go_wp2
    go_ret
    exact ⟨rfl, rfl⟩
  · have t1 : (FloatKind.f64.format.order x x != some .eq) = true := h
    clear h
    go_enter Try.func14, Try.ntmps14
    go_wp2
    go_ret
    exact ⟨rfl, rfl⟩
end Go.Proofs.Ytelhbkfhalpniaa

namespace Go.Proofs.Ytelhbkfhalpniaa
open Go.RowKit Go.Lib Go.Joins

theorem info_f64 : (Try.prog.info? 26).map (fun i => (i.zero, i.size, i.bytes)) = some (some (.float .f64 0), 1, 8) := by kernel_rfl
theorem own_other {w w' : World} {base g : Nat} {e : TypeId} {size : Nat} {v : Value} {n : Nat} {xs : List Value} (h : w.ownsRow base e size v n xs) (hg : g < base) (o : ∀ k, k ≠ g → w'.heap[k]? = w.heap[k]?) : w'.ownsRow base e size v n xs := by
  refine ⟨h.1, h.2.imp id ?_⟩
  rintro ⟨q, cap, cur, hv, hb, hh, rest⟩
  exact ⟨q, cap, cur, hv, hb, (o q (by omega)).trans hh, rest⟩
/-- The state behind so many steps. -/
def stN (s : Nat) : Nat → Nat
  | 0 => s
  | k + 1 => stepN (stN s k)
def rollsL (s : Nat) (k : Nat) : List Value := (List.range k).map fun i => Value.float .f64 (fd (stN s (i + 1)))
theorem rollsL_snoc (s k : Nat) : rollsL s (k + 1) = rollsL s k ++ [Value.float .f64 (fd (stepN (stN s k)))] := by
  simp [rollsL, List.range_succ, stN]
theorem rollsL_get (s k j : Nat) (h : j < k) : (rollsL s k)[j]? = some (.float .f64 (fd (stepN (stN s j)))) := by
  simp [rollsL, h, stN]
theorem fd_eq {s : Nat} (h : s < 281474976710656) : (FloatKind.f64.format.order (fd s) (fd s) == some .eq) = true := by
  have := fd_bd h
  rw [order_self_eq (by omega) (by omega)]
  exact decide_eq_true rfl
/-- What stands behind so many rolls of the first dice. -/
structure ApSt (w wr : World) (g B x s t m : Nat) (v : Value) (n : Nat) : Prop where
  da : wr.heap[g]? = some (diceO x s)
  db : wr.heap[g + 1]? = some (diceO x t)
  own : wr.ownsRow B 26 1 v n (rollsL m n)
  below : Below g w wr
  size : B ≤ wr.heap.size
theorem ApSt.nextA {w wr w' : World} {g B x s t m n : Nat} {v : Value} {s' : Nat} (h : ApSt w wr g B x s t m v n) (hB : g + 1 < B) (d : DTo g wr w' x s') : ApSt w w' g B x s' t m v n :=
  ⟨d.is, (d.other (g + 1) (by omega)).trans h.db, own_other h.own (g := g) (by omega) d.other, h.below.trans (d.below g (Nat.le_refl _)), by rw [d.size]; exact h.size⟩
theorem ApSt.nextB {w wr w' : World} {g B x s t m n : Nat} {v : Value} {t' : Nat} (h : ApSt w wr g B x s t m v n) (hB : g + 1 < B) (d : DTo (g + 1) wr w' x t') : ApSt w w' g B x s t' m v n :=
  ⟨(d.other g (by omega)).trans h.da, d.is, own_other h.own (g := g + 1) (by omega) d.other, h.below.trans (d.below g (by omega)), by rw [d.size]; exact h.size⟩
theorem di_cell {w w' : World} {g r j : Nat} (o : ∀ k, k ≠ g → w'.heap[k]? = w.heap[k]?) (h : r ≠ g) : w'.cell? ⟨r, j, none⟩ = w.cell? ⟨r, j, none⟩ := by simp [World.cell?, o r h]
theorem own_form {w : World} {B s k : Nat} {v : Value} (h : w.ownsRow B 26 1 v k (rollsL s k)) : ∃ A cap, v = .slice A k cap ∧ ∀ j, j < k → ∃ r, A = some ⟨r, 0, none⟩ ∧ B ≤ r ∧ w.cell? ⟨r, j, none⟩ = some (.float .f64 (fd (stepN (stN s j)))) := by
  have h0 := h
  obtain ⟨hl, ⟨rfl, rfl⟩ | ⟨r, cap, cur, rfl, hb, hh, hn, hm, hs, ht⟩⟩ := h
  · exact ⟨none, 0, rfl, fun j hj => absurd hj (by omega)⟩
  · refine ⟨_, cap, rfl, fun j hj => ⟨r, rfl, hb, ?_⟩⟩
    rw [h0.cellAt j (by omega), rollsL_get s k j hj]
set_option maxRecDepth 100000 in
set_option maxHeartbeats 4000000 in
theorem diceApart_any (x : Nat) (n : Int) (w : World) (hx : x < 18446744073709551616) (_hn : -9223372036854775808 ≤ n ∧ n ≤ 9223372036854775807) : Calls Try.prog 4 #[.int .u64 (x : Int), .int .i64 n] w fun e w' => e = .returned (.bool true) ∧ Below w.heap.size w w' := by
  have CX := Lib.hid (dfixed_any w)
  have CN := Lib.hid (fun W => new_any_di x W hx)
  have CT := Lib.hid (fun (g : Nat) (W : World) (s : Nat) (hd : W.heap[g]? = some (diceO x s)) => next_any_di g x s W hd)
  have CS := Lib.hid (fun (g : Nat) (W : World) (s : Nat) (hd : W.heap[g]? = some (diceO x s)) => seed_any_di g x s W hd)
  have CE := Lib.hid (fun W => dsame_any x W)
  have hf := fun W => run_f64from x W
  have HO := Lib.hid (fun s (h : s < 281474976710656) => fd_eq h)
  have HI := Lib.hid (info_parts info_f64)
  go_enter Try.func4, Try.ntmps4
  go_wp2_with fail
  refine CX.out.mono ?_
  rintro e w1 ⟨rfl, hB⟩
  have HB := Lib.hid hB
  clear hB
  go_wp2_with fail
  refine (CN.out _).mono ?_
  rintro e w2 ⟨rfl, hd2, hs2, hB2⟩
  have HB2 := Lib.hid hB2
  clear hB2
  go_wp2_with fail
  refine (CN.out _).mono ?_
  rintro e w3 ⟨rfl, hd3, hs3, hB3⟩
  obtain ⟨g, hg⟩ : ∃ g, w1.heap.size = g := ⟨_, rfl⟩
  rw [hs2] at hd3 hs3 hB3 ⊢
  rw [hg] at hd2 hd3 hs3 hB3 ⊢
  have hgw : w.heap.size ≤ g := by have := HB.out.size; omega
  have hI : ApSt w1 w3 g (g + 2) x (seedN x) (seedN x) (seedN x) (.slice none 0 0) 0 :=
    ⟨(hB3.block g (by omega)).trans hd2, hd3, World.ownsRow_nil _ _ _ _, by have := HB2.out; rw [hg] at this; exact this.trans (hB3.mono (by omega)), by omega⟩
  have HI0 := Lib.hid hI
  have HG := Lib.hid hgw
  clear hd2 hs2 hd3 hs3 hB3 hg HB2 hI hgw
  obtain ⟨i0, hi, hz0, hz1, hz2⟩ := HI.out
  go_wp2_with fail
  go_loopw [8, 9] (fun v i wr => ∃ k : Nat, k ≤ 50 ∧ i = .int .i64 k ∧ Hid (ApSt w1 wr g (g + 2) x (stN (seedN x) k) (seedN x) (seedN x) v k)) (fun _ i _ => 50 - (RowKit.intOf i).toNat)
  case atStart => exact ⟨0, by omega, rfl, HI0⟩
  case round =>
    obtain ⟨k, hk, rfl, hS⟩ := hrel
    by_cases hlt : (k : Int) < n ∧ k < 50
    · obtain ⟨h1, h2⟩ := hlt
      go_wp2_with fail
      refine (CT.out g _ _ hS.out.da).mono ?_
      rintro e w4 ⟨rfl, hd⟩
      have hS := hS.out.nextA (by omega) hd
      have hown := hS.own
      have hsz := hS.size
      have hda := hS.da
      have hdb := hS.db
      have hbel := hS.below
      clear hd hS
      go_wp2_with (at_builtin; refine wpList_append_own _ rfl _ _ 35 rfl (g + 2) 26 i0 (.float .f64 0) 1 8 Try.underlying35 hi hz0 hz1 hz2 rfl (by decide) _ _ _ rfl (hown.alloc _) ⟨w4.heap.size, 0, none⟩ 1 1 [.float .f64 (fd (stepN (stN (seedN x) k)))] rfl rfl (cell_one_new _ _ _) ?c2 ?c3 ?c4 ?c5 ?_)
      case c2 => simp [Value.oneCell']
      case c3 => unfold maxLen; omega
      case c4 => omega
      case c5 => first | omega | (simp; omega)
      intro v' w5 hown' hgrow hnil
      have hk1 : Below (g + 2) w4 w5 := ((Below.refl (g + 2) w4).alloc hsz _).grown hgrow (by simp; omega) (fun z e => (hown.lt z e).1)
      have hN : ApSt w1 w5 g (g + 2) x (stN (seedN x) (k + 1)) (seedN x) (seedN x) v' (k + 1) :=
        ⟨(hk1.block g (by omega)).trans hda, (hk1.block (g + 1) (by omega)).trans hdb, by rw [rollsL_snoc]; exact hown', hbel.trans (hk1.mono (by omega)), by have := hk1.size; omega⟩
      have HN := Lib.hid hN
      clear hown' hgrow hnil hk1 hN hown hda hdb hbel hsz
      go_wp2_with fail
      go_roundw
      case rel => exact ⟨k + 1, by omega, by go_num, HN⟩
      case measure => simp [RowKit.intOf]; omega
    · have hlt0 : decide ((k : Int) < n) = false ∨ (decide ((k : Int) < n) = true ∧ decide ((k : Int) < 50) = false) := by
        rcases Classical.em ((k : Int) < n) with h | h
        · right; exact ⟨decide_eq_true h, decide_eq_false (by omega)⟩
        · left; exact decide_eq_false h
      clear hlt
      obtain ⟨A, cap, rfl, hA⟩ := own_form hS.out.own
      have HA := Lib.hid hA
      have hkm : (k : Int) ≤ 50 := by omega
      clear hA
      obtain ⟨sk, hsk⟩ : ∃ s, stN (seedN x) k = s := ⟨_, rfl⟩
      rw [hsk] at hS
      clear hsk
      rcases hlt0 with hl | ⟨hl, hl2⟩ <;>
        · go_wp2_with fail
          go_loopw [10, 41] (fun _ i wr => ∃ j : Nat, j ≤ k ∧ i = .int .i64 j ∧ Hid (ApSt w1 wr g (g + 2) x sk (stN (seedN x) j) (seedN x) (.slice A k cap) k)) (fun _ i _ => k - (RowKit.intOf i).toNat)
          case atStart => exact ⟨0, by omega, rfl, hS⟩
          case round =>
            clear hS HI0 HI
            obtain ⟨j, hj, rfl, hS⟩ := hrel
            by_cases hjk : j < k
            · obtain ⟨A', cap', hv, hA'⟩ := own_form hS.out.own
              cases hv
              obtain ⟨r, rfl, hr, hc⟩ := hA' j hjk
              have hj0 : (0 : Int) ≤ (j : Int) := by omega
              have hj1 : (j : Int) < (k : Int) := by omega
              have hdb : wr.drew.heap[g + 1]? = some (diceO x (stN (seedN x) j)) := hS.out.db
              have ho := HO.out _ (stepN_lt (stN (seedN x) j))
              obtain ⟨z, hz⟩ : ∃ z, fd (stepN (stN (seedN x) j)) = z := ⟨_, rfl⟩
              have HZ := Lib.hid hz
              rw [hz] at hc ho
              have ho2 : (FloatKind.f64.format.order z z != some .eq) = false := by rw [bne, ho]; rfl
              have hC := Lib.hid hc
              have hR := Lib.hid hr
              clear hA' hz hr
              go_wp2_with fail
              go_region_held3 (fun w' => w'.cell? ⟨r, j, none⟩ = some (.float .f64 z))
                (first | (with_reducible exact S1) | go_keep)
                (first
                | (go_at_call 11; (with_reducible refine (CT.out (g + 1) _ _ hdb).mono ?_); rintro e W3 ⟨rfl, hd⟩; rw [HZ.out]; have S1 : W3.cell? ⟨r, j, none⟩ = some (.float .f64 z) := (di_cell (w := wr.drew) hd.other (by have := hR.out; omega)).trans hC.out))
              all_goals
                have hN := Lib.hid ((hS.out.nextB (by omega) (wr := wr) (w' := W3) ⟨hd.is, hd.size, hd.other, fun n hn => (Below.drew (Below.refl n wr)).trans (hd.below n hn)⟩))
                clear hd S1 hS
                go_wp2_with fail
                go_roundw
                case rel => exact ⟨j + 1, by omega, by go_num, hN⟩
                case measure => simp [RowKit.intOf]; omega
            · have hke : j = k := by omega
              subst hke
              have hda := hS.out.da
              have HB3 := Lib.hid hS.out.below
              clear hS
              go_wp2_with fail
              refine (CS.out g _ _ hda).mono ?_
              rintro e w' ⟨rfl, rfl⟩
              go_wp2_with fail
              refine (CE.out _).mono ?_
              rintro e w' ⟨rfl, rfl⟩
              go_wp2_with fail
              go_ret
              exact ⟨rfl, HB.out.trans (HB3.out.mono HG.out)⟩
theorem diceApart_int (a n : Int) (w : World) (h0 : 0 ≤ a) (h1 : a < 18446744073709551616) (hn : -9223372036854775808 ≤ n ∧ n ≤ 9223372036854775807) : Calls Try.prog 4 #[.int .u64 a, .int .i64 n] w fun e w' => e = .returned (.bool true) ∧ Below w.heap.size w w' := by
  obtain ⟨x, rfl⟩ : ∃ x : Nat, a = (x : Int) := ⟨a.toNat, by omega⟩
  exact diceApart_any x n w (by omega) hn
end Go.Proofs.Ytelhbkfhalpniaa

namespace Go.Proofs.Ytelhbkfhalpniaa
open Go.RowKit Go.Lib Go.Joins

set_option maxRecDepth 100000 in
set_option maxHeartbeats 4000000 in
theorem diceRolls_any (A : Option Addr) (ca : Nat) (xs : List Nat) (n : Int) (w : World) (hl : xs.length ≤ 9223372036854775807) (hx : ∀ x ∈ xs, x < 18446744073709551616) (hr : Rd .u64 w A xs) :
    Calls Try.prog 3 #[.slice A xs.length ca, .int .i64 n] w fun e w' => e = .returned (.bool true) ∧ Below w.heap.size w w' := by
  have CX := Lib.hid (dfixed_any w)
  have CN := Lib.hid (fun W => new_any_di 0 W (by omega))
  have CT := Lib.hid (fun (g x s : Nat) (W : World) (hd : W.heap[g]? = some (diceO x s)) => next_any_di g x s W hd)
  have CS := Lib.hid (fun (g x s : Nat) (W : World) (hd : W.heap[g]? = some (diceO x s)) => seed_any_di g x s W hd)
  have CR := Lib.hid (fun (g x s y : Nat) (W : World) (hd : W.heap[g]? = some (diceO x s)) (hy : y < 18446744073709551616) => reseed_any g x s y W hd hy)
  have CA := Lib.hid (fun x W (h : x < 18446744073709551616) => rstate_any x W h)
  have CP := Lib.hid (fun s W (h : s < 281474976710656) => rstep_any s W h)
  have CE := Lib.hid (fun x W => dsame_any x W)
  have CNR := Lib.hid (fun W => nil_reseed 4607182418800017408 W)
  have CNS := Lib.hid nil_seed
  have CNN := Lib.hid nil_next
  have HO := Lib.hid (fun s (h : s < 281474976710656) => fd_eq h)
  have o0 : (FloatKind.f64.format.order 0 0 == some .eq) = true := by decide
  have HRd := Lib.hid hr
  have HXs := Lib.hid hx
  clear hr hx
  go_enter Try.func3, Try.ntmps3
  go_wp2_with fail
  refine CX.out.mono ?_
  rintro e w1 ⟨rfl, hB⟩
  have HB := Lib.hid hB
  clear hB
  by_cases h100 : xs.length ≤ 100
  · go_wp2_with fail
    refine (CN.out _).mono ?_
    rintro e w2 ⟨rfl, hd2, hs2, hB2⟩
    obtain ⟨g, hg⟩ : ∃ g, w1.heap.size = g := ⟨_, rfl⟩
    rw [hg] at hd2 hs2 hB2 ⊢
    have hgw : w.heap.size ≤ g := by have := HB.out.size; omega
    have HB2 := Lib.hid (HB.out.trans (hB2.mono hgw))
    have HD2 := Lib.hid hd2
    have HG := Lib.hid hgw
    clear hd2 hs2 hB2 hg hgw HB
    go_wp2_with fail
    refine (CA.out 0 _ (by omega)).mono ?_
    rintro e w' ⟨rfl, rfl⟩
    go_wp2_with fail
    go_loopw [6, 8, 9, 10, 11, 24] (fun sv _ _ _ _ i wr => ∃ j X S : Nat, j ≤ xs.length ∧ S < 281474976710656 ∧ i = .int .i64 j ∧ sv = .int .i64 S ∧ Hid (wr.heap[g]? = some (diceO X S)) ∧ Hid (Below w.heap.size w wr)) (fun _ _ _ _ _ i _ => xs.length - (RowKit.intOf i).toNat)
    case atStart => exact ⟨0, 0, seedN 0, by omega, seedN_lt 0, rfl, rfl, HD2, HB2⟩
    case round =>
      clear HD2 HB2
      obtain ⟨j, X, S, hj, hS, rfl, rfl, HD, HBe⟩ := hrel
      by_cases hjk : j < xs.length
      · obtain ⟨r, o, rfl, hc⟩ := HRd.out.below HBe.out j hjk
        have hy := HXs.out xs[j] (List.getElem_mem hjk)
        obtain ⟨y, hyy⟩ : ∃ y, xs[j] = y := ⟨_, rfl⟩
        rw [hyy] at hc hy
        have hj0 : (0 : Int) ≤ (j : Int) := by omega
        have hj1 : (j : Int) < (xs.length : Int) := by omega
        clear hyy
        go_wp2_with fail
        go_loopw [6, 9, 10] (fun sv kv _ wr => ∃ k S : Nat, k ≤ 20 ∧ S < 281474976710656 ∧ kv = .int .i64 k ∧ sv = .int .i64 S ∧ Hid (wr.heap[g]? = some (diceO X S)) ∧ Hid (Below w.heap.size w wr)) (fun _ kv _ _ => 20 - (RowKit.intOf kv).toNat)
        case atStart => exact ⟨0, S, by omega, hS, rfl, rfl, HD, HBe⟩
        case round =>
          clear HD HBe hS
          obtain ⟨k, S, hk, hS, rfl, rfl, HD, HBe⟩ := hrel
          by_cases hlt : (k : Int) < n ∧ k < 20
          · obtain ⟨h1, h2⟩ := hlt
            go_wp2_with fail
            refine (CP.out S _ hS).mono ?_
            rintro e w' ⟨rfl, rfl⟩
            go_wp2_with fail
            refine (CT.out g X S _ HD.out).mono ?_
            rintro e w4 ⟨rfl, hd⟩
            have hz := stepN_lt S
            have HD := Lib.hid hd.is
            have HBe := Lib.hid (HBe.out.trans (hd.below _ HG.out))
            clear hd
            obtain ⟨z, hzz⟩ : ∃ z, stepN S = z := ⟨_, rfl⟩
            rw [hzz] at hz HD ⊢
            have hf : floatOfInt .f64 (z : Int) = fw z := float_nat (by omega)
            have hq : ∀ t W, (binOp .quo t (.float .f64 (fw z)) (.float .f64 4823355200913801216)).run Try.prog W = .ok (.float .f64 (fd z)) W := fun t W => run_float_arith W .quo t .f64 _ _ _ (quo_fd hz)
            have ho : (FloatKind.f64.format.order (fd z) (fd z) != some .eq) = false := by rw [bne, HO.out z hz]; rfl
            obtain ⟨hg1, hg2⟩ := fd_ge hz
            have hg0 : (FloatKind.f64.format.order (fd z) 0 == some .lt) = false := by rw [beq_eq_false_iff_ne]; exact hg1
            clear hzz
            go_wp2_with fail
            go_roundw
            case rel => exact ⟨k + 1, z, by omega, hz, by go_num, rfl, HD, HBe⟩
            case measure => simp [RowKit.intOf]; omega
          · have hlt0 : decide ((k : Int) < n) = false ∨ (decide ((k : Int) < n) = true ∧ decide ((k : Int) < 20) = false) := by
              rcases Classical.em ((k : Int) < n) with h | h
              · right; exact ⟨decide_eq_true h, decide_eq_false (by omega)⟩
              · left; exact decide_eq_false h
            clear hlt
            have hf := fun W => run_f64from y W
            rcases hlt0 with hl | ⟨hl, hl2⟩ <;>
              · go_wp2_with fail
                refine (CR.out g X S y _ HD.out hy).mono ?_
                rintro e w4 ⟨rfl, hd⟩
                have HD := Lib.hid hd.is
                have HBe := Lib.hid (HBe.out.trans (hd.below _ HG.out))
                clear hd
                go_wp2_with fail
                refine (CA.out y _ hy).mono ?_
                rintro e w' ⟨rfl, rfl⟩
                go_wp2_with fail
                refine (CS.out g y (seedN y) _ HD.out).mono ?_
                rintro e w' ⟨rfl, rfl⟩
                go_wp2_with fail
                refine (CE.out y _).mono ?_
                rintro e w' ⟨rfl, rfl⟩
                go_wp2_with fail
                go_roundw
                case rel => exact ⟨j + 1, y, seedN y, by omega, seedN_lt y, by go_num, rfl, HD, HBe⟩
                case measure => simp [RowKit.intOf]; omega
      · have hke : j = xs.length := by omega
        subst hke
        go_wp2_with fail
        refine (CNR.out _).mono ?_
        rintro e w' ⟨rfl, rfl⟩
        go_wp2_with fail
        refine (CNS.out _).mono ?_
        rintro e w' ⟨rfl, rfl⟩
        go_wp2_with fail
        refine (CNN.out _).mono ?_
        rintro e w' ⟨rfl, rfl⟩
        go_wp2_with fail
        go_ret
        exact ⟨rfl, HBe.out⟩
  · go_wp2_with fail
    go_ret
    exact ⟨rfl, HB.out⟩
end Go.Proofs.Ytelhbkfhalpniaa

namespace Go.Proofs.Ytelhbkfhalpniaa
open Go.RowKit Go.ChangeShapes Go.WideShapes

theorem cells_u64di : Try.prog.cellsOf 28 = 1 := by kernel_rfl
set_option maxRecDepth 100000 in
theorem open_u64s {H : Type} {enc : TypeId × Value → H} {W : World} {v : Value} {d : DataW H} {p : List MemPlace} {base : Nat} (hv : Value.okWide Try.prog W .any base 22 v) (h : DataW.Trod enc Try.prog W 0 (fun _ => true) true 22 v d p) :
    ∃ (A : Option Addr) (cap : Nat) (xs : List Nat), v = .slice A xs.length cap ∧ xs.length ≤ cap ∧ cap ≤ maxLen ∧ (A = none → cap = 0) ∧ (∀ x ∈ xs, x < 18446744073709551616) ∧ Rd .u64 W A xs ∧ (∀ W', Below W.heap.size W W' → DataW.Trod enc Try.prog W' 0 (fun b => decide (b < W.heap.size)) true 22 (.slice A xs.length cap) d p) ∧
      ((∀ z ∈ DataW.weights Try.prog 22 d, z ≤ 140737488351232) → xs.length ≤ 140737488351232) := by
  obtain ⟨a0, len, cap, rfl⟩ := okWide_slice Try.underlying22 hv
  obtain ⟨fuel, hf⟩ := h
  rcases open_ints Try.underlying22 Try.underlying28 cells_u64di hf with ⟨hcs, hx⟩ | ⟨a, len', cap', zs, hcs, _, hl, hm, hz, hx, hcell, hwz⟩
  · simp [Value.cells] at hcs
    obtain ⟨rfl, rfl, rfl⟩ := hcs
    simp only [Prod.mk.injEq] at hx
    obtain ⟨rfl, rfl⟩ := hx
    exact ⟨none, 0, [], rfl, Nat.le_refl _, Nat.zero_le _, fun _ => rfl, (fun x hx => by cases hx), Rd.nil, fun W' _ => shut_slice_nil Try.underlying22, fun _ => Nat.zero_le _⟩
  · simp [Value.cells] at hcs
    obtain ⟨rfl, rfl, rfl⟩ := hcs
    simp only [Prod.mk.injEq] at hx
    obtain ⟨rfl, rfl⟩ := hx
    simp only [if_true] at hz
    have hn : ∀ i, (hi : i < zs.length) → ∃ x : Nat, zs[i] = (x : Int) ∧ x < 18446744073709551616 := fun i hi => by
      have := bounds_u64 (hwz zs[i] (List.getElem_mem hi))
      exact ⟨zs[i].toNat, by omega, by omega⟩
    refine ⟨some a, cap, (zs.take len).map Int.toNat, ?_, ?_, hm, (fun e => by cases e), ?_, ?_, fun W' hB => ?_, fun hz2 => ?_⟩
    · rw [List.length_map, List.length_take, Nat.min_eq_left (by omega)]
    · rw [List.length_map, List.length_take]; omega
    · intro x hx2
      obtain ⟨z, hz2, rfl⟩ := List.mem_map.1 hx2
      have := bounds_u64 (hwz z (List.mem_of_mem_take hz2))
      show z.toNat < 18446744073709551616
      omega
    · intro j hj
      rw [List.length_map, List.length_take] at hj
      obtain ⟨b, off, rfl, hat⟩ := ints_at hcell (by omega)
      refine ⟨b, off, rfl, ?_⟩
      rw [hat j (by omega), List.getElem_map, List.getElem_take]
      obtain ⟨x, hx1, hx2⟩ := hn j (by omega)
      have : zs.getD j 0 = zs[j] := by simp [List.getD, show j < zs.length by omega]
      rw [this, hx1]
      rfl
    · have hlen : ((zs.take len).map Int.toNat).length = len := by rw [List.length_map, List.length_take]; omega
      rw [hlen]
      refine ⟨0 + 2, ?_⟩
      have hsp : zs.length = (if (fun b => decide (b < W.heap.size)) a.block = true then cap else len) := by
        by_cases h0 : 0 < zs.length
        · obtain ⟨b, off, rfl, hat⟩ := ints_at hcell h0
          have := World.block_lt_of_cell? W _ (hat 0 h0)
          have h2 : decide (b < W.heap.size) = true := decide_eq_true this
          simp only [h2, if_true]
          exact hz
        · split <;> omega
      refine shut_ints (enc := enc) (P := Try.prog) (w := W') (base := 0) (spare := fun b => decide (b < W.heap.size)) (held := true) 0 Try.underlying22 Try.underlying28 cells_u64di (Nat.zero_le _) hl hm hsp (fun i hi => ?_) hwz
      rw [hB.cell]
      · exact hcell i hi
      · exact World.block_lt_of_cell? W _ (hcell i hi)
    · have hb : Try.prog.bytesOf 28 = 8 := by kernel_rfl
      have := hz2 _ (by
        unfold DataW.weights
        rw [Try.underlying22]
        exact List.mem_cons_self)
      rw [hb] at this
      simp [lits] at this
      rw [List.length_map, List.length_take]
      omega
end Go.Proofs.Ytelhbkfhalpniaa
