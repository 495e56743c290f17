/- Several texts in one (Plain: the parts of the long division; Contracts of layer 2: addTo; Contracts of layer 2: divLong; Contracts of layer 2: Div; Contracts of layer 2: Text; Contracts of layer 2: Add, Sub; Contracts of layer 2: Bits; Contracts of layer 2: Shl, Mul; Contracts of layer 2: Mul; The definition of layer 2: trim, Small, Add; The definition of layer 2: Text; Small facts on answers of layer 2; Contracts of layer 13's definition: number; Contracts of layer 13's definition: leap, year, length, Of; Contracts of layer 13's definition: Iso, weeks; Contracts of layer 13: Text at any format and any time; the definition's names; Contracts of layer 13's definition: rest, letter by letter). -/
import Derived.Outline
import Derived.Lib.BitFns
import Derived.Laws.CopyOwn
import Derived.Test.YtelhbkfhalpniaaDoorQt2
import Derived.Test.YtelhbkfhalpniaaDoorQt3
namespace Go.Proofs.YtelhbkfhalpniaaDoor

/-- The dividend, shifted up into one limb more. -/
theorem shu_more {B P : Nat} {xs cur : List Nat} {c : Nat} (h : ShuR B P xs cur xs.length c) (hl : cur.length = xs.length + 1) (hP : P ≤ B) : Lim B (cur.set xs.length c) ∧ (cur.set xs.length c).length = xs.length + 1 ∧ vl B (cur.set xs.length c) = vl B xs * P := by
  obtain ⟨h1, h2, h3⟩ := h
  refine ⟨lim_set h3 (by omega), by rw [List.length_set, hl], ?_⟩
  rw [vl_take_all (Nat.le_refl _)] at h1
  rw [← vl_take_all (B := B) (l := cur.set xs.length c) (k := xs.length + 1) (by rw [List.length_set]; omega), take_set_succ (by omega), vl_snoc, List.length_take, Nat.min_eq_left (by omega), h1]
/-- The divisor, shifted up into as many limbs: nothing is carried out of it, and its top limb is great. -/
theorem shu_same {B P y H : Nat} {ys cur : List Nat} {c : Nat} (h : ShuR B P ys cur ys.length c) (hl : cur.length = ys.length) (hy : Lim B ys) (h0 : 0 < ys.length) (hye : ys[ys.length - 1] = y) (h1 : H ≤ y * P) (h2 : (y + 1) * P ≤ B) :
    c = 0 ∧ vl B cur = vl B ys * P ∧ (∀ h : ys.length - 1 < cur.length, H ≤ cur[ys.length - 1]) ∧ vl B cur < B ^ ys.length := by
  obtain ⟨a1, a2, a3⟩ := h
  rw [vl_take_all (Nat.le_refl _), vl_take_all (by omega)] at a1
  have e1 : vl B ys = vl B (ys.take (ys.length - 1)) + B ^ (ys.length - 1) * y := by
    have := vl_take_succ B ys (ys.length - 1) (by omega)
    rw [show ys.length - 1 + 1 = ys.length by omega, vl_take_all (Nat.le_refl _), hye] at this
    exact this
  have e2 : vl B (ys.take (ys.length - 1)) < B ^ (ys.length - 1) := by
    have := vl_lt (lim_take hy (ys.length - 1))
    rwa [List.length_take, Nat.min_eq_left (by omega)] at this
  have e3 : B ^ ys.length = B ^ (ys.length - 1) * B := by rw [← Nat.pow_succ, show (ys.length - 1).succ = ys.length by omega]
  have e4 : vl B ys * P < B ^ ys.length := by
    have f1 : (vl B ys + 1) * P ≤ B ^ (ys.length - 1) * (y + 1) * P := Nat.mul_le_mul_right _ (by rw [Nat.mul_add]; omega)
    have f2 : B ^ (ys.length - 1) * ((y + 1) * P) ≤ B ^ (ys.length - 1) * B := Nat.mul_le_mul_left _ h2
    rw [e3]
    rw [Nat.mul_assoc] at f1
    have hP : 0 < P := by
      rcases Nat.eq_zero_or_pos P with hp | hp
      · subst hp; omega
      · exact hp
    rw [Nat.add_mul] at f1
    omega
  have hc : c = 0 := by
    rcases Nat.eq_zero_or_pos c with h | h
    · exact h
    · have : B ^ ys.length * 1 ≤ B ^ ys.length * c := Nat.mul_le_mul_left _ h
      omega
  subst hc
  rw [Nat.mul_zero, Nat.add_zero] at a1
  refine ⟨rfl, a1, fun hh => ?_, by rw [a1]; exact e4⟩
  have g1 := vl_take_succ B cur (ys.length - 1) hh
  rw [show ys.length - 1 + 1 = ys.length by omega, vl_take_all (by omega)] at g1
  have g2 := vl_lt (lim_take a3 (ys.length - 1))
  rw [List.length_take, Nat.min_eq_left (by omega)] at g2
  have g3 : B ^ (ys.length - 1) * H ≤ vl B cur := by
    rw [a1, e1, Nat.add_mul]
    have : B ^ (ys.length - 1) * H ≤ B ^ (ys.length - 1) * (y * P) := Nat.mul_le_mul_left _ h1
    rw [← Nat.mul_assoc] at this
    omega
  obtain ⟨z, hz⟩ : ∃ z, cur[ys.length - 1] = z := ⟨_, rfl⟩
  rw [hz] at g1 ⊢
  rcases Nat.lt_or_ge z H with h | h
  · have : B ^ (ys.length - 1) * (z + 1) ≤ B ^ (ys.length - 1) * H := Nat.mul_le_mul_left _ h
    rw [Nat.mul_add] at this
    omega
  · exact h
/-- The two top limbs. -/
theorem vl_two {B : Nat} {l : List Nat} {n : Nat} (hn : l.length = n) (h2 : 2 ≤ n) : vl B l = vl B (l.take (n - 2)) + B ^ (n - 2) * (l[n - 2]'(by omega) + B * l[n - 1]'(by omega)) := by
  have a := vl_take_succ B l (n - 2) (by omega)
  have b := vl_take_succ B l (n - 1) (by omega)
  rw [show n - 2 + 1 = n - 1 by omega] at a
  rw [show n - 1 + 1 = n by omega, vl_take_all (by omega)] at b
  rw [b, a, show B ^ (n - 1) = B ^ (n - 2) * B by rw [← Nat.pow_succ, show (n - 2).succ = n - 1 by omega], Nat.mul_add, Nat.mul_assoc]
  omega
/-- The three top limbs. -/
theorem vl_three {B : Nat} {l : List Nat} {n : Nat} (hn : l.length = n + 1) (h2 : 2 ≤ n) : vl B l = vl B (l.take (n - 2)) + B ^ (n - 2) * (l[n - 2]'(by omega) + B * (l[n - 1]'(by omega) + B * l[n]'(by omega))) := by
  have a := vl_take_succ B l (n - 2) (by omega)
  have b := vl_take_succ B l (n - 1) (by omega)
  have c := vl_take_succ B l n (by omega)
  rw [show n - 2 + 1 = n - 1 by omega] at a
  rw [show n - 1 + 1 = n by omega] at b
  rw [vl_take_all (by omega)] at c
  rw [c, b, a, show B ^ n = B ^ (n - 2) * B * B by rw [← Nat.pow_succ, ← Nat.pow_succ, show (n - 2).succ.succ = n by omega], show B ^ (n - 1) = B ^ (n - 2) * B by rw [← Nat.pow_succ, show (n - 2).succ = n - 1 by omega]]
  simp only [Nat.mul_add, Nat.mul_assoc]
  omega
theorem guess_of {B : Nat} {Ds part : List Nat} {n : Nat} (hD : Lim B Ds) (hp : Lim B part) (h2 : 2 ≤ n) (hn : Ds.length = n) (hpn : part.length = n + 1) (htop : B ≤ 2 * Ds[n - 1]'(by omega)) (hB : 2 ≤ B) (hlt : vl B part < B * vl B Ds) :
    GuessOk B (B ^ (n - 2)) (vl B (Ds.take (n - 2))) (Ds[n - 1]'(by omega)) (Ds[n - 2]'(by omega)) (vl B (part.take (n - 2))) (part[n]'(by omega)) (part[n - 1]'(by omega)) (part[n - 2]'(by omega)) := by
  refine ⟨Nat.pow_pos (by omega), ?_, ?_, lim_get hD _ _, lim_get hD _ _, lim_get hp _ _, htop, hB, ?_⟩
  · have := vl_lt (lim_take hD (n - 2))
    rwa [List.length_take, Nat.min_eq_left (by omega)] at this
  · have := vl_lt (lim_take hp (n - 2))
    rwa [List.length_take, Nat.min_eq_left (by omega)] at this
  · rw [← vl_two hn h2, ← vl_three hpn h2]
    exact hlt
/-- takeFrom, borrow or not, of the part. -/
theorem take_end {B : Nat} {t : Nat} {part Ds cur : List Nat} {m r : Nat} (h : TakeR B t part Ds cur part.length m r) (hlen : Ds.length < part.length) (ht : t ≤ B) : m = 0 ∧ vl B cur + t * vl B Ds = vl B part + B ^ part.length * r ∧ Lim B cur ∧ cur.length = part.length ∧ r ≤ 1 := by
  obtain ⟨h1, h2, h3, _, h5⟩ := h
  have hm := h5 hlen ht
  subst hm
  rw [vl_take_all (by rw [h1.len]; exact Nat.le_refl _), vl_take_all (Nat.le_refl _), vl_take_all (by omega), Nat.zero_add] at h2
  exact ⟨rfl, h2, h1.lim, h1.len, h3⟩
theorem add_end {B : Nat} {part Ds cur : List Nat} {c : Nat} (h : AddR B part Ds cur part.length c) (hlen : Ds.length ≤ part.length) : vl B cur + B ^ part.length * c = vl B part + vl B Ds ∧ Lim B cur ∧ cur.length = part.length ∧ c ≤ 1 := by
  obtain ⟨h1, h2, h3⟩ := h
  rw [vl_take_all (by rw [h1.len]; exact Nat.le_refl _), vl_take_all (Nat.le_refl _), vl_take_all hlen] at h2
  exact ⟨h2, h1.lim, h1.len, h3⟩
/-- The state ahead of the first round. -/
theorem long_start {B P la lb m : Nat} (hB : 0 < B) {xs ys As : List Nat} (hx : Lim B xs) (hla : xs.length = la) (hlb : ys.length = lb) (hy : Top ys) (hlb0 : 0 < lb) (hm : m + lb = la + 1) (hA : Lim B As) (hAl : As.length = la + 1) (hv : vl B As = vl B xs * P) (hP : 0 < P) :
    Long B (vl B ys * P) (vl B xs * P) As (List.replicate m 0) m := by
  refine ⟨hA, lim_zeros hB m, ?_, ?_⟩
  · have h1 := vl_take_drop B As m (by omega)
    have h2 := vl_lt hx
    have h3 := vl_top (B := B) hy (by intro e; subst e; simp at hlb; omega)
    rw [hlb] at h3
    rw [hla] at h2
    have h4 : B ^ la = B ^ m * B ^ (lb - 1) := by rw [← Nat.pow_add]; congr 1; omega
    have h5 : vl B xs * P < B ^ m * (vl B ys * P) := by
      have a : vl B xs * P < B ^ la * P := (Nat.mul_lt_mul_right hP).2 h2
      have b : B ^ m * (B ^ (lb - 1) * P) ≤ B ^ m * (vl B ys * P) := Nat.mul_le_mul_left _ (Nat.mul_le_mul_right _ h3)
      rw [h4, Nat.mul_assoc] at a
      omega
    have h6 : B ^ m * vl B (As.drop m) < B ^ m * (vl B ys * P) := by omega
    exact Nat.lt_of_mul_lt_mul_left h6
  · rw [List.drop_of_length_le (by simp), vl_nil, Nat.mul_zero, Nat.mul_zero, Nat.add_zero, hv]
/-- The state behind the last round. -/
theorem long_end {B P n : Nat} {xs ys cur qs : List Nat} (h : Long B (vl B ys * P) (vl B xs * P) cur qs 0) (hP : 0 < P) (hD : vl B ys * P < B ^ n) (hn : n ≤ cur.length) : vl B (cur.take n) / P = vl B xs % vl B ys ∧ vl B qs = vl B xs / vl B ys := by
  have h1 := h.less
  have h2 := h.eq
  rw [List.drop_zero] at h1 h2
  rw [Nat.pow_zero, Nat.one_mul] at h2
  have h3 := zeros_above (cur := cur) (i := 0) (n := n) (by rw [List.drop_zero]; exact h1) hD (by omega)
  rw [Nat.zero_add] at h3
  have h4 := vl_take_drop B cur n hn
  rw [h3, Nat.mul_zero, Nat.add_zero] at h4
  have := unscale hP h2 h1
  rw [h4] at this
  exact this
end Go.Proofs.YtelhbkfhalpniaaDoor

namespace Go.Proofs.YtelhbkfhalpniaaDoor
open Go.RowKit Go.Lib


end Go.Proofs.YtelhbkfhalpniaaDoor

namespace Go.Proofs.YtelhbkfhalpniaaDoor
open Go.RowKit Go.Lib

theorem bitLenAux_bounds : ∀ (f x : Nat), x < 2 ^ f → x ≠ 0 → 0 < Lib.bitLenAux f x ∧ Lib.bitLenAux f x ≤ f ∧ 2 ^ (Lib.bitLenAux f x - 1) ≤ x ∧ x < 2 ^ Lib.bitLenAux f x
  | 0, x, h, h0 => by simp at h; exact absurd h h0
  | f + 1, x, h, h0 => by
    rw [Lib.bitLenAux, if_neg h0]
    by_cases h2 : x / 2 = 0
    · have hx1 : x = 1 := by omega
      subst hx1
      have : Lib.bitLenAux f (1 / 2) = 0 := by cases f <;> simp [Lib.bitLenAux]
      rw [this]
      simp
    · obtain ⟨a, b, c, d⟩ := bitLenAux_bounds f (x / 2) (by rw [Nat.pow_succ] at h; omega) h2
      obtain ⟨m, hm⟩ : ∃ m, Lib.bitLenAux f (x / 2) = m + 1 := ⟨Lib.bitLenAux f (x / 2) - 1, by omega⟩
      rw [hm] at b c d ⊢
      rw [show 1 + (m + 1) = m + 1 + 1 by omega]
      simp only [Nat.add_sub_cancel, Nat.pow_succ] at c d ⊢
      omega
/-- By how much a limb is shifted, lest its highest digit be 0. -/
theorem lead_spec {y : Nat} (h0 : y ≠ 0) (hy : y < 4294967296) : ∃ k : Nat, (32 : Int) - (Lib.bitLen y : Int) = (k : Int) ∧ k < 32 ∧ 2147483648 ≤ y * 2 ^ k ∧ (y + 1) * 2 ^ k ≤ 4294967296 := by
  have e : Lib.bitLen y = Lib.bitLenAux 32 y := Lib.bitLenAux_fuel 32 y hy 64 (by omega)
  obtain ⟨a, b, c, d⟩ := bitLenAux_bounds 32 y hy h0
  rw [← e] at a b c d
  refine ⟨32 - Lib.bitLen y, by omega, by omega, ?_, ?_⟩
  · have h := Nat.mul_le_mul_right (2 ^ (32 - Lib.bitLen y)) c
    rw [← Nat.pow_add, show Lib.bitLen y - 1 + (32 - Lib.bitLen y) = 31 by omega] at h
    exact h
  · have h := Nat.mul_le_mul_right (2 ^ (32 - Lib.bitLen y)) (Nat.succ_le_of_lt d)
    rw [← Nat.pow_add, show Lib.bitLen y + (32 - Lib.bitLen y) = 32 by omega] at h
    exact h

/-- How a division ends: two rows of the call's own, in two blocks. -/
def DivEnd (w : World) (a b : Nat) (m : Nat) (e : Ending) (w' : World) : Prop :=
  ∃ (v v' : Value) (qs rs : List Nat), e = .returned (.tuple #[v, v']) ∧ Own .u32 w' w.heap.size 124 v qs ∧ Own .u32 w' w.heap.size 124 v' rs ∧ Lim B32 qs ∧ Lim B32 rs ∧ vl B32 qs = a / b ∧ vl B32 rs = a % b ∧ qs.length ≤ m ∧ rs.length ≤ m ∧
    v.ownBlock ≠ v'.ownBlock ∧ Below w.heap.size w w'

theorem zeros_nums (n : Nat) : (madeCells (Value.int .u32 0).cells (n * 1)).toList = nums .u32 (List.replicate n 0) := by
  rw [Nat.mul_one]
  show (madeCells #[Value.int .u32 0] n).toList = _
  rw [toList_madeCells_one, nums, List.map_replicate]
  rfl
/-- A new block of noughts. -/
theorem at_made (w : World) (n : Nat) : At .u32 (w.alloc (.cells (madeCells (Value.int .u32 0).cells (n * 1)) 124)) w.heap.size 124 [] (List.replicate n 0) [] :=
  ⟨_, heap_alloc_new w _, by rw [zeros_nums]; simp⟩

/-- Two new blocks, one behind the other, and a draw. -/
theorem two_new (w : World) (n m : Nat) : At .u32 (((w.alloc (.cells (madeCells #[Value.int .u32 0] n) 124)).alloc (.cells (madeCells #[Value.int .u32 0] m) 124)).drew) w.heap.size 124 [] (List.replicate n 0) [] ∧
    At .u32 (((w.alloc (.cells (madeCells #[Value.int .u32 0] n) 124)).alloc (.cells (madeCells #[Value.int .u32 0] m) 124)).drew) (w.heap.size + 1) 124 [] (List.replicate m 0) [] ∧
    Below w.heap.size w (((w.alloc (.cells (madeCells #[Value.int .u32 0] n) 124)).alloc (.cells (madeCells #[Value.int .u32 0] m) 124)).drew) := by
  have a := at_made w n
  have b := at_made (w.alloc (.cells (madeCells #[Value.int .u32 0] n) 124)) m
  rw [Nat.mul_one] at a b
  have e : (w.alloc (.cells (madeCells #[Value.int .u32 0] n) 124)).heap.size = w.heap.size + 1 := by simp
  rw [e] at b
  exact ⟨(a.alloc _).drew, b.drew, (((Below.refl _ _).alloc (Nat.le_refl _) _).alloc (by simp) _).drew⟩

end Go.Proofs.YtelhbkfhalpniaaDoor

namespace Go.Proofs.YtelhbkfhalpniaaDoor
open Go.RowKit Go.Lib

/-- What Div answers. -/
noncomputable def divRes (xs ys : List Nat) : List Nat × List Nat × Int :=
  if vld xs = true ∧ vld ys = true then (if ys = [] then ([], [], 1) else (dig B32 (vl B32 xs / vl B32 ys), dig B32 (vl B32 xs % vl B32 ys), 0)) else ([], [], 30)
/-- How Div ends. -/
def DivEnd3 (w : World) (x : List Nat × List Nat × Int) (e : Ending) (w' : World) : Prop :=
  ∃ v v' : Value, e = .returned (.tuple #[v, v', .int .i64 x.2.2]) ∧ Own .u32 w' w.heap.size 124 v x.1 ∧ Own .u32 w' w.heap.size 124 v' x.2.1 ∧ (v.ownBlock = none ∨ v.ownBlock ≠ v'.ownBlock) ∧ Below w.heap.size w w'
theorem natres_fix {xs : List Nat} (h : Norm B32 xs) : dig B32 (vl B32 xs) = xs := dig_eq (by decide) h rfl
theorem vld_norm {xs : List Nat} (hx : Lim B32 xs) (h : vld xs = true) : Norm B32 xs := ⟨hx, (vld_iff.1 h).2⟩
theorem one_div {B d left : Nat} {xs cur : List Nat} (h : DivR B d xs cur 0 left) : vl B cur = vl B xs / d ∧ left = vl B xs % d ∧ Lim B cur ∧ cur.length = xs.length := by
  obtain ⟨h1, h2, h3⟩ := h
  rw [List.drop_zero, List.drop_zero] at h2
  have := Nat.div_mod_unique (show 0 < d by omega) (a := vl B xs) (c := left) (d := vl B cur)
  have h4 := this.2 ⟨by rw [h2]; omega, h3⟩
  exact ⟨h4.1.symm, h4.2.symm, h1.lim, h1.len⟩
theorem vl_pos {ys : List Nat} (hy : Top ys) (h : ys ≠ []) : 0 < vl B32 ys := Nat.lt_of_lt_of_le (Nat.pow_pos (by decide)) (vl_top hy h)

end Go.Proofs.YtelhbkfhalpniaaDoor

namespace Go.Proofs.YtelhbkfhalpniaaDoor
open Go.RowKit Go.Lib

/-- Digits as bytes. -/
def d8 (ds : List Nat) : List Nat := ds.map fun d => 48 + d
theorem d8_len (ds : List Nat) : (d8 ds).length = ds.length := List.length_map _
theorem d8_snoc (ds : List Nat) (d : Nat) : d8 (ds ++ [d]) = d8 ds ++ [48 + d] := by simp [d8]
def lenOf : Value → Nat | .slice _ n _ => n | _ => 0
/-- Rows of different elements lie in different blocks. -/
theorem own_types {κ κ' : IntKind} {w : World} {B B' : Nat} {t t' : TypeId} {v v' : Value} {xs ys : List Nat} (h : Own κ w B t v xs) (h' : Own κ' w B' t' v' ys) (hne : t ≠ t') : v.ownBlock = none ∨ v.ownBlock ≠ v'.ownBlock := by
  rcases h.2 with ⟨rfl, _⟩ | ⟨g, cap, cur, rfl, _, hg, _⟩
  · exact .inl rfl
  · refine .inr fun e => ?_
    rcases h'.2 with ⟨rfl, _⟩ | ⟨g', cap', cur', rfl, _, hg', _⟩
    · cases e
    · have e2 : g = g' := Option.some.inj e
      subst e2
      rw [hg] at hg'
      cases hg'
      exact hne rfl
/-- What Text answers. -/
noncomputable def textRes (xs : List Nat) : List UInt8 × Int := if vld xs = true then (decs (vl B32 xs), 0) else ([], 30)
/-- The number of digits that have come. -/
theorem text_len {xs : List Nat} {n r : Nat} (hx : Lim B32 xs) (hr : 0 < r) (h : 10 ^ n * r ≤ vl B32 xs) : n < 10 * xs.length := by
  have h1 := vl_lt hx
  have h2 : B32 ^ xs.length ≤ (10 ^ 10) ^ xs.length := Nat.pow_le_pow_left (by decide) _
  rw [← Nat.pow_mul] at h2
  have h3 : 10 ^ n * 1 ≤ 10 ^ n * r := Nat.mul_le_mul_left _ hr
  have h4 : 10 ^ n < 10 ^ (10 * xs.length) := by omega
  exact (Nat.pow_lt_pow_iff_right (by omega)).1 h4
theorem rev_bytes {ds : List Nat} (h : Lim 10 ds) : nums .u8 (d8 ds).reverse = (ds.reverse.map db).map fun x => Value.int .u8 x.toNat := by
  unfold nums d8
  rw [← List.map_reverse, List.map_map, List.map_map]
  apply List.map_congr_left
  intro d hd
  have := h d (List.mem_reverse.1 hd)
  show Value.int .u8 ((48 + d : Nat) : Int) = Value.int .u8 ((db d).toNat : Int)
  rw [db_toNat this]
theorem conv_digits (W : World) (B : Nat) (v : Value) (l : List UInt8) (hown : W.ownsRow B 5 1 v l.length (l.map fun x => Value.int .u8 x.toNat)) :
    (convert 57 9 v).run Tryd.prog W = .ok (.string ⟨l.toArray⟩) W := by
  rcases hown.2 with ⟨rfl, h0⟩ | ⟨g, cap, cur, rfl, _⟩
  · have : l = [] := List.eq_nil_of_length_eq_zero h0
    subst this
    exact run_convert_nil_bytes W 57 9 5 0 Tryd.underlying57 Tryd.underlying5 Tryd.underlying9
  · refine run_convert_bytes_back (P := Tryd.prog) W 57 9 5 ⟨g, 0, none⟩ cap l Tryd.underlying57 Tryd.underlying5 Tryd.underlying9 (fun j hj => ?_)
    exact hown.cells (g := g) rfl j _ (by simp [hj])
/-- One digit more. -/
theorem digit_more {ds : List Nat} {p M : Nat} (h : vl 10 ds + 10 ^ ds.length * p = M) : vl 10 (ds ++ [p % 10]) + 10 ^ (ds ++ [p % 10]).length * (p / 10) = M := by
  rw [vl_snoc, List.length_append, List.length_singleton, Nat.pow_succ, ← h]
  have := digit_step (B := 10) (P := 10 ^ ds.length) (z := p)
  omega

end Go.Proofs.YtelhbkfhalpniaaDoor

namespace Go.Proofs.YtelhbkfhalpniaaDoor
open Go.RowKit Go.Lib

/-- A natural, or that an argument is none. -/
noncomputable def res2 (xs ys : List Nat) (n : Nat) : List Nat × Int := if vld xs = true ∧ vld ys = true then natRes n else ([], 30)
theorem add_sum' {B : Nat} (hB : 2 ≤ B) {xs ys cur : List Nat} {c : Nat} (hx : Lim B xs) (hy : Lim B ys) (hl : ys.length ≤ xs.length) (h : AddR B (xs ++ [0]) ys cur (xs.length + 1) c) : vl B cur = vl B xs + vl B ys ∧ Lim B cur ∧ cur.length = xs.length + 1 := by
  have hll : (xs ++ [0]).length = xs.length + 1 := by simp
  have ae := add_end (part := xs ++ [0]) (by rw [hll]; exact h) (by rw [hll]; omega)
  rw [hll, vl_snoc, Nat.mul_zero, Nat.add_zero] at ae
  obtain ⟨e1, e2, e3, e4⟩ := ae
  have h1 := vl_lt hx
  have h2 := vl_lt hy
  have h3 : B ^ ys.length ≤ B ^ xs.length := Nat.pow_le_pow_right (by omega) hl
  have h4 : B ^ (xs.length + 1) = B ^ xs.length * B := Nat.pow_succ ..
  have hc : c = 0 := by
    rcases Nat.eq_zero_or_pos c with h | h
    · exact h
    · have a : B ^ (xs.length + 1) * 1 ≤ B ^ (xs.length + 1) * c := Nat.mul_le_mul_left _ h
      have b : B ^ xs.length * 2 ≤ B ^ xs.length * B := Nat.mul_le_mul_left _ hB
      omega
  subst hc
  exact ⟨by omega, e2, e3⟩
theorem add_sum {xs ys cur : List Nat} {c : Nat} (hx : Lim B32 xs) (hy : Lim B32 ys) (hl : ys.length ≤ xs.length) (h : AddR B32 (xs ++ [0]) ys cur (xs.length + 1) c) : vl B32 cur = vl B32 xs + vl B32 ys ∧ Lim B32 cur ∧ cur.length = xs.length + 1 := add_sum' (by decide) hx hy hl h
end Go.Proofs.YtelhbkfhalpniaaDoor

namespace Go.Proofs.YtelhbkfhalpniaaDoor
open Go.RowKit Go.Lib

/-- How many binary digits. -/
def bitsN (xs : List Nat) : Nat := if xs = [] then 0 else (xs.length - 1) * 32 + Lib.bitLen (xs.getD (xs.length - 1) 0)
end Go.Proofs.YtelhbkfhalpniaaDoor

namespace Go.Proofs.YtelhbkfhalpniaaDoor
open Go.RowKit Go.Lib

/-- What Shl answers. -/
noncomputable def shlRes (xs : List Nat) (k : Int) : List Nat × Int :=
  if vld xs = true then (if k < 0 then ([], 1) else if xs = [] then ([], 0) else if 8192 - (bitsN xs : Int) < k then ([], 3) else (dig B32 (vl B32 xs * 2 ^ k.toNat), 0)) else ([], 30)
theorem shl_value {xs As : List Nat} {low r k : Nat} (hv : vl B32 As = vl B32 xs * 2 ^ r) (hk : k = 32 * low + r) : vl B32 (List.replicate low 0 ++ As) = vl B32 xs * 2 ^ k := by
  rw [vl_append, vl_zeros, Nat.zero_add, List.length_replicate, hv, hk, Nat.pow_add, Nat.pow_mul]
  show (2 ^ 32) ^ low * (vl B32 xs * 2 ^ r) = _
  exact Nat.mul_left_comm _ _ _

end Go.Proofs.YtelhbkfhalpniaaDoor

namespace Go.Proofs.YtelhbkfhalpniaaDoor
open Go.RowKit Go.Lib

/-- The state of the inner loop of the product. -/
structure MulIn (B : Nat) (base cur : List Nat) (i j c x : Nat) (ys : List Nat) : Prop where
  len : cur.length = base.length
  lim : Lim B cur
  hc : c < B
  rest : cur.drop (i + ys.length) = base.drop (i + ys.length)
  eq : vl B cur + B ^ (i + j) * c = vl B base + B ^ i * (x * vl B (ys.take j))
theorem mulIn_start {B : Nat} (hB : 0 < B) {base : List Nat} (h : Lim B base) (i x : Nat) (ys : List Nat) : MulIn B base base i 0 0 x ys := ⟨rfl, h, hB, rfl, by simp [vl]⟩
theorem mulIn_step {B : Nat} {base cur ys : List Nat} {i j c x : Nat} (h : MulIn B base cur i j c x ys) (hx : x < B) (hy : Lim B ys) (hj : j < ys.length) (hi : i + j < cur.length) (z : Nat) (hz : z = c + (x * ys[j] + cur[i + j])) :
    MulIn B base (cur.set (i + j) (z % B)) i (j + 1) (z / B) x ys := by
  have b1 := lim_get hy j hj
  have b2 := lim_get h.lim (i + j) hi
  have hB : 0 < B := by omega
  refine ⟨by rw [List.length_set, h.len], lim_set h.lim (Nat.mod_lt _ hB), ?_, ?_, ?_⟩
  · apply Nat.div_lt_of_lt_mul
    have h1 : x * ys[j] ≤ (B - 1) * (B - 1) := Nat.mul_le_mul (by omega) (by omega)
    have h2 : (B - 1) * (B - 1) + (B - 1) + (B - 1) < B * B := by
      obtain ⟨b, rfl⟩ : ∃ b, B = b + 1 := ⟨B - 1, by omega⟩
      simp only [Nat.add_sub_cancel, Nat.add_mul, Nat.mul_add, Nat.mul_one, Nat.one_mul]
      omega
    have h3 := h.hc
    omega
  · rw [List.drop_set_of_lt (by omega), h.rest]
  · have e1 := vl_set B cur (i + j) (z % B) hi
    have e2 := h.eq
    have hd := digit_step (B := B) (P := B ^ (i + j)) (z := z)
    have e3 := congrArg (B ^ (i + j) * ·) hz
    have e4 : B ^ i * (x * (B ^ j * ys[j])) = B ^ (i + j) * (x * ys[j]) := by rw [Nat.pow_add, Nat.mul_left_comm x, Nat.mul_assoc]
    rw [vl_take_succ B ys j hj, show i + (j + 1) = (i + j) + 1 by omega, Nat.pow_succ]
    simp only [Nat.mul_add] at e3 ⊢
    rw [e4]
    omega
/-- One row of the product more. -/
theorem mul_row {B : Nat} {base cur xs ys : List Nat} {i c x : Nat} (h : MulIn B base cur i ys.length c x ys) (hv : vl B base = vl B (xs.take i) * vl B ys) (hi : i < xs.length) (hx : xs[i] = x) (hl : base.length = xs.length + ys.length)
    (hz : base.drop (i + ys.length) = List.replicate (xs.length - i) 0) :
    vl B (cur.set (i + ys.length) c) = vl B (xs.take (i + 1)) * vl B ys ∧ (cur.set (i + ys.length) c).drop (i + 1 + ys.length) = List.replicate (xs.length - (i + 1)) 0 ∧ Lim B (cur.set (i + ys.length) c) := by
  have hlen : i + ys.length < cur.length := by have := h.len; omega
  have h0 : cur[i + ys.length] = 0 := by
    have a := drop_get cur (i + ys.length) hlen
    rw [h.rest, hz, show xs.length - i = (xs.length - (i + 1)) + 1 by omega, List.replicate_succ] at a
    exact (List.cons.inj a).1.symm
  refine ⟨?_, ?_, lim_set h.lim h.hc⟩
  · have e1 := vl_set B cur (i + ys.length) c hlen
    have e2 := h.eq
    rw [h0, Nat.mul_zero, Nat.add_zero] at e1
    rw [vl_take_all (Nat.le_refl _), hv] at e2
    rw [e1, e2, vl_take_succ B xs i hi, hx, Nat.add_mul, Nat.mul_assoc]
  · rw [List.drop_set_of_lt (by omega), show i + 1 + ys.length = (i + ys.length) + 1 by omega, ← List.drop_drop, h.rest, hz, List.drop_replicate]
    congr 1
theorem mul_fits {x y d c : Nat} (hx : x < 4294967296) (hy : y < 4294967296) (hd : d < 4294967296) (hc : c < 4294967296) : ∃ p : Nat, x * y = p ∧ (x : Int) * (y : Int) = (p : Int) ∧ (p : Int) + (d : Int) + (c : Int) ≤ 18446744073709551615 := by
  have h : x * y ≤ 4294967295 * 4294967295 := Nat.mul_le_mul (by omega) (by omega)
  exact ⟨x * y, rfl, (Int.natCast_mul _ _).symm, by omega⟩

end Go.Proofs.YtelhbkfhalpniaaDoor

namespace Go.Proofs.YtelhbkfhalpniaaDoor
open Go.RowKit Go.Lib

/-- The unit of a piece. -/
abbrev D4 : Nat := 10000
theorem lim4 {l : List Nat} (h : Lim D4 l) (k : Nat) (hk : k < l.length) : ∃ x, l[k] = x ∧ x < 10000 := ⟨_, rfl, lim_get h k hk⟩

theorem small_step {ds : List Nat} {m n : Nat} (h : vl D4 ds + D4 ^ ds.length * m = n) : vl D4 (ds ++ [m % 10000]) + D4 ^ (ds ++ [m % 10000]).length * (m / 10000) = n := by
  rw [vl_snoc, List.length_append, List.length_singleton, Nat.pow_succ, ← h]
  have hd : D4 ^ ds.length * m = D4 ^ ds.length * (m % 10000) + D4 ^ ds.length * D4 * (m / 10000) := digit_step (B := 10000) (P := D4 ^ ds.length) (z := m)
  omega
set_option maxRecDepth 100000 in
set_option maxHeartbeats 2000000 in
theorem small_any (n : Nat) (w : World) (hn : n ≤ 9223372036854775807) : Calls Tryd.prog 49 #[.int .i64 n] w (Makes .i64 3 w (dig D4 n)) := by
  obtain ⟨i0, hi, hz0, hz1, hz2⟩ := info_parts info_i64
  go_enter Tryd.func49, Tryd.ntmps49
  go_wp2
  go_loopw [0, 3] (fun q v wr => ∃ (m : Nat) (ds : List Nat), q = .int .i64 m ∧ (ds.length ≤ 16 ∧ m ≤ n ∧ m < 10000 ^ (16 - ds.length)) ∧ Own .i64 wr w.heap.size 3 v ds ∧ Lim D4 ds ∧ vl D4 ds + D4 ^ ds.length * m = n ∧ (0 < m ∨ Top ds) ∧ Below w.heap.size w wr) (fun q _ _ => (RowKit.intOf q).toNat)
  case atStart => exact ⟨n, [], rfl, ⟨Nat.zero_le _, Nat.le_refl _, Nat.lt_of_le_of_lt hn (by decide)⟩, Own.nil _ _ _, lim_nil _, by simp [vl], .inr top_nil, Below.refl _ _⟩
  case round =>
    obtain ⟨m, ds, rfl, ⟨hd16, hmn, hmp⟩, hO, hL, hv, ht, hB⟩ := hrel
    obtain ⟨A, cap, rfl, hcap⟩ := hO.slice
    by_cases hm : m = 0
    · subst hm
      have HE := Lib.hid (show dig D4 n = ds from dig_eq (by decide) ⟨hL, by rcases ht with h | h; omega; exact h⟩ (by rw [← hv]; simp))
      have HO := Lib.hid hO
      clear hv hO hL ht
      go_wp2
      go_ret
      exact ⟨_, rfl, by rw [HE.out]; exact HO.out, hB⟩
    · have hown := hO.row (n := ds.length) rfl
      have HS := Lib.hid (small_step hv)
      have hlim : Lim D4 (ds ++ [m % 10000]) := lim_append.2 ⟨hL, lim_one.2 (Nat.mod_lt _ (by decide))⟩
      have htop : 0 < m / 10000 ∨ Top (ds ++ [m % 10000]) := by
        rcases Nat.eq_zero_or_pos (m / 10000) with h | h
        · exact .inr (top_snoc.2 (by omega))
        · exact .inl h
      have hsz := hB.size
      have hd15 : ds.length < 16 := by
        rcases Nat.lt_or_ge ds.length 16 with h | h
        · exact h
        · rw [show 16 - ds.length = 0 by omega, Nat.pow_zero] at hmp
          omega
      have hm1 : ds.length + 1 ≤ 16 ∧ m / 10000 ≤ n ∧ m / 10000 < 10000 ^ (16 - (ds.length + 1)) := by
        refine ⟨by omega, by omega, Nat.div_lt_of_lt_mul ?_⟩
        rw [← Nat.pow_succ', show (16 - (ds.length + 1)).succ = 16 - ds.length by omega]
        exact hmp
      clear hmp
      clear hv hO hL ht
      go_wp2_with (at_builtin; refine wpList_append_own _ rfl _ _ 87 rfl w.heap.size 3 i0 (.int .i64 0) 1 8 Tryd.underlying87 hi hz0 hz1 hz2 rfl (by decide) _ _ _ rfl (hown.alloc _) ⟨wr.heap.size, 0, none⟩ 1 1 [.int .i64 ((m % 10000 : Nat) : Int)] rfl rfl (cell_one_new _ _ _) ?c2 ?c3 ?c4 ?c5 ?_)
      case c2 => simp [Value.oneCell']
      case c3 => unfold maxLen; omega
      case c4 => omega
      case c5 => first | omega | (simp; omega)
      intro v' w4 hown' hgrow _
      have hB4 : Below w.heap.size w w4 := (hB.alloc hsz _).grown hgrow (by simp; omega) (fun z e => (hown.lt z e).1)
      have HO1 := Lib.hid (Own.snoc hown' rfl)
      clear hown hown' hgrow
      go_wp2
      go_roundw
      case rel => exact ⟨m / 10000, ds ++ [m % 10000], vint (by omega), by rw [List.length_append]; exact hm1, HO1.out, hlim, HS.out, htop, hB4⟩
      case measure => simp [RowKit.intOf]; omega
end Go.Proofs.YtelhbkfhalpniaaDoor

namespace Go.Proofs.YtelhbkfhalpniaaDoor
open Go.RowKit Go.Lib

/-- The definition's Text: the four digits of a piece. -/
def quad (x : Nat) : List Nat := [x / 1000, x / 100 % 10, x / 10 % 10, x % 10]
theorem quad_lim {x : Nat} (h : x < 10000) : Lim 10 (quad x) := by
  intro y hy
  simp [quad] at hy
  omega
/-- The digits so far, the highest first. -/
structure RTxt (xs ds : List Nat) (k : Nat) : Prop where
  len : ds.length = 4 * (xs.length - k)
  lim : Lim 10 ds
  eq : vl 10 ds.reverse = vl D4 (xs.drop k)
theorem rtxt_start (xs : List Nat) : RTxt xs [] xs.length := ⟨by simp, lim_nil _, by rw [List.drop_length]; rfl⟩
theorem rtxt_step {xs ds : List Nat} {k : Nat} (h : RTxt xs ds (k + 1)) (hk : k < xs.length) (hx : Lim D4 xs) : RTxt xs (ds ++ quad xs[k]) k := by
  have hb := lim_get hx k hk
  refine ⟨?_, lim_append.2 ⟨h.lim, quad_lim hb⟩, ?_⟩
  · rw [List.length_append, h.len]
    show _ + 4 = _
    omega
  · rw [drop_get xs k hk, vl_cons, ← h.eq, List.reverse_append]
    obtain ⟨x, hxe⟩ : ∃ x, xs[k] = x := ⟨_, rfl⟩
    rw [hxe] at hb ⊢
    show vl 10 ((x % 10) :: (x / 10 % 10) :: (x / 100 % 10) :: (x / 1000) :: ds.reverse) = x + 10000 * vl 10 ds.reverse
    simp only [vl_cons]
    omega
/-- The noughts ahead. -/
theorem dropWhile_at {ds : List Nat} {k : Nat} (hk : k < ds.length) (h0 : ∀ j (hj : j < ds.length), j < k → ds[j] = 0) (hne : ds[k] ≠ 0) : ds.dropWhile (· == 0) = ds.drop k := by
  induction k generalizing ds with
  | zero =>
    cases ds with
    | nil => simp at hk
    | cons x l =>
      rw [List.dropWhile_cons, if_neg (by simpa using hne), List.drop_zero]
  | succ k ih =>
    cases ds with
    | nil => simp at hk
    | cons x l =>
      have hx : x = 0 := h0 0 (by simp) (by omega)
      rw [List.dropWhile_cons, if_pos (by simpa using hx), List.drop_succ_cons]
      exact ih (by simpa using hk) (fun j hj h => h0 (j + 1) (by simpa using hj) (by omega)) hne
theorem vl_pos_ex {ds : List Nat} (h : ∀ j (hj : j < ds.length), ds[j] = 0) : vl 10 ds.reverse = 0 := by
  have : ds = List.replicate ds.length 0 := by
    apply List.ext_getElem
    · simp
    · intro i h1 h2; rw [List.getElem_replicate]; exact h i h1
  rw [this, List.reverse_replicate, vl_zeros]
theorem rtxt_end {xs ds : List Nat} {k : Nat} (h : RTxt xs ds 0) (hn : vl D4 xs ≠ 0) (hk : k < ds.length) (h0 : ∀ j (hj : j < ds.length), j < k → ds[j] = 0) (hne : ds[k] ≠ 0) : decs (vl D4 xs) = (ds.drop k).map db := by
  have e := h.eq
  rw [List.drop_zero] at e
  rw [← e, decs_pv (fun x hx => h.lim x (List.mem_reverse.1 hx)) (by rw [e]; exact hn), List.reverse_reverse, dropWhile_at hk h0 hne]
/-- The definition's Parse: pieces of four digits from the end. -/
structure RPar (l : List UInt8) (ds : List Nat) (m : Nat) : Prop where
  lim : Lim D4 ds
  eq : vl D4 ds = pv (l.drop m)
  pow : 0 < m → 10 ^ (l.length - m) = D4 ^ ds.length
theorem rpar_start (l : List UInt8) : RPar l [] l.length := ⟨lim_nil _, by rw [List.drop_length]; rfl, fun _ => by simp⟩
theorem pv_lt4 {l : List UInt8} (h : Dec l) (hl : l.length ≤ 4) : pv l < 10000 := by
  have h1 := pv_lt h
  have h2 : 10 ^ l.length ≤ 10 ^ 4 := Nat.pow_le_pow_right (by omega) hl
  exact Nat.lt_of_lt_of_le h1 h2
theorem drop_split {l : List UInt8} {m m' : Nat} (h : m' ≤ m) : l.drop m' = (l.drop m').take (m - m') ++ l.drop m := by
  have := (List.take_append_drop (m - m') (l.drop m')).symm
  rwa [List.drop_drop, show m' + (m - m') = m by omega] at this
theorem rpar_step {l : List UInt8} {ds : List Nat} {m m' : Nat} (h : RPar l ds m) (hd : Dec l) (hm0 : 0 < m) (hm : m ≤ l.length) (he : m' = m - 4) : RPar l (ds ++ [pv ((l.drop m').take (m - m'))]) m' := by
  have hp := h.pow hm0
  refine ⟨lim_append.2 ⟨h.lim, lim_one.2 (pv_lt4 (dec_take (dec_drop hd _) _) (by rw [List.length_take]; omega))⟩, ?_, ?_⟩
  · rw [vl_snoc, h.eq, ← hp, drop_split (show m' ≤ m by omega), pv_append, List.length_drop, Nat.mul_comm]
    have e : (((l.drop m').take (m - m') ++ l.drop m).take (m - m')) = (l.drop m').take (m - m') := by
      rw [List.take_append_of_le_length (by rw [List.length_take, List.length_drop]; omega), List.take_take, Nat.min_self]
    rw [e]
    omega
  · intro h0
    rw [List.length_append, List.length_singleton, Nat.pow_succ, ← hp, show l.length - m' = (l.length - m) + 4 by omega, Nat.pow_add]
theorem rpar_end {l : List UInt8} {ds : List Nat} (h : RPar l ds 0) : vl D4 ds = pv l := by
  have := h.eq
  rwa [List.drop_zero] at this

theorem cells_four (w : World) (a b c d : Value) (t : TypeId) : ∀ j u, [a, b, c, d][j]? = some u → (w.alloc (.cells #[a, b, c, d] t)).cell? ((⟨w.heap.size, 0, none⟩ : Addr).add j) = some u :=
  (World.ownsRow_lit (base := w.heap.size) (e := t) (size := 1) w #[a, b, c, d] 4 (Nat.le_refl _) (by decide) rfl).cells (g := w.heap.size) rfl
theorem quad_cells {x : Nat} {a b c d : Int} (ha : a = ((48 + x / 1000 : Nat) : Int)) (hb : b = ((48 + x / 100 % 10 : Nat) : Int)) (hc : c = ((48 + x / 10 % 10 : Nat) : Int)) (hd : d = ((48 + x % 10 : Nat) : Int)) :
    [Value.int .u8 a, .int .u8 b, .int .u8 c, .int .u8 d] = nums .u8 (d8 (quad x)) := by
  subst ha hb hc hd
  rfl
theorem d8_app (a b : List Nat) : d8 (a ++ b) = d8 a ++ d8 b := by simp [d8]
theorem Own.more {κ : IntKind} {w : World} {B : Nat} {t : TypeId} {v : Value} {xs ys : List Nat} {k m : Nat} {cs : List Value} (h : w.ownsRow B t 1 v (k + m) (nums κ xs ++ cs)) (hc : cs = nums κ ys) (hk : k = xs.length) (hm : m = ys.length) : Own κ w B t v (xs ++ ys) := by
  subst hc
  exact Own.append h hk hm
theorem fwd_bytes {ds : List Nat} (h : Lim 10 ds) : nums .u8 (d8 ds) = (ds.map db).map fun x => Value.int .u8 x.toNat := by
  have := rev_bytes (ds := ds.reverse) (fun x hx => h x (List.mem_reverse.1 hx))
  rw [List.reverse_reverse] at this
  rw [← this, d8, d8, List.map_reverse, List.reverse_reverse]
/-- 'string(out[k:])'. -/
theorem conv_from (W : World) (B g cap k : Nat) (ds : List Nat) (hl : Lim 10 ds) (hO : Own .u8 W B 5 (.slice (some ⟨g, 0, none⟩) ds.length cap) (d8 ds)) (hk : k ≤ ds.length) :
    (convert 57 9 (.slice (some ⟨g, k, none⟩) (ds.length - k) (cap - k))).run Tryd.prog W = .ok (.string ⟨((ds.drop k).map db).toArray⟩) W := by
  have e : ds.length - k = ((ds.drop k).map db).length := by simp
  rw [e]
  refine run_convert_bytes_back (P := Tryd.prog) W 57 9 5 ⟨g, k, none⟩ (cap - k) ((ds.drop k).map db) Tryd.underlying57 Tryd.underlying5 Tryd.underlying9 (fun j hj => ?_)
  rw [List.length_map, List.length_drop] at hj
  have hc := hO.cell (k + j) (by rw [d8_len]; omega)
  rw [Addr.add_lit, hc]
  have h1 : (d8 ds)[k + j]'(by rw [d8_len]; omega) = 48 + ds[k + j]'(by omega) := by simp [d8]
  have h2 : ((ds.drop k).map db)[j]'(by simp; omega) = db (ds[k + j]'(by omega)) := by simp
  rw [h1, h2, db_toNat (lim_get hl (k + j) (by omega))]

set_option maxRecDepth 100000 in
set_option maxHeartbeats 4000000 in
theorem rtext_any (A : Option Addr) (ca : Nat) (xs : List Nat) (w : World) (hx : Norm D4 xs) (hxn : xs.length ≤ 100000) (hra : Rd .i64 w A xs) :
    Calls Tryd.prog 48 #[.slice A xs.length ca] w fun e w' => e = .returned (.string ⟨(decs (vl D4 xs)).toArray⟩) ∧ Below w.heap.size w w' := by
  by_cases hx0 : xs = []
  · have hb : ((xs.length : Int) == 0) = true := by rw [hx0]; rfl
    have HD := Lib.hid (show decs (vl D4 xs) = [48] by rw [hx0]; rfl)
    clear hx0 hx hra
    go_enter Tryd.func48, Tryd.ntmps48
    go_wp2
    go_ret
    exact ⟨by rw [HD.out]; rfl, Below.refl _ _⟩
  obtain ⟨i0, hi, hz0, hz1, hz2⟩ := info_parts info_u8
  have hlen := List.length_pos_iff.2 hx0
  have hb : ((xs.length : Int) == 0) = false := by rw [beq_eq_false_iff_ne]; omega
  have hpos := vl_top (B := D4) hx.2 hx0
  have hpp : 0 < D4 ^ (xs.length - 1) := Nat.pow_pos (by decide)
  have HNZ := Lib.hid (show vl D4 xs ≠ 0 by omega)
  have hL := hx.1
  clear hx hx0 hpos hpp
  go_enter Tryd.func48, Tryd.ntmps48
  go_wp2
  go_loopw [3, 4] (fun v i wr => ∃ (k : Nat) (ds : List Nat), k ≤ xs.length ∧ i = .int .i64 ((k : Int) - 1) ∧ Own .u8 wr w.heap.size 5 v (d8 ds) ∧ RTxt xs ds k ∧ Below w.heap.size w wr) (fun _ i _ => (RowKit.intOf i + 1).toNat)
  case atStart => exact ⟨xs.length, [], Nat.le_refl _, rfl, Own.nil _ _ _, rtxt_start xs, Below.refl _ _⟩
  case round =>
    obtain ⟨k, ds, hk, rfl, hO, hR, hB⟩ := hrel
    obtain ⟨A3, c3, rfl, hc3⟩ := hO.slice
    have hdl := hR.len
    rw [d8_len] at hO hc3 ⊢
    rcases k with _ | k
    · have hdp : 0 < ds.length := by omega
      obtain ⟨g, rfl, hg⟩ := hO.addr (by rw [d8_len]; exact hdp)
      have HR := Lib.hid hR
      have HO := Lib.hid hO
      have hlm := hR.lim
      have hdb4 : ds.length ≤ 400000 := by omega
      clear hR hO hdl
      go_wp2
      go_loop [6] (fun q => ∃ m : Nat, m < ds.length ∧ q = .int .i64 m ∧ ∀ j (hj : j < ds.length), j < m → ds[j] = 0) (fun q => ds.length - (RowKit.intOf q).toNat)
      case atStart => exact ⟨0, hdp, rfl, fun j _ h => absurd h (by omega)⟩
      case round =>
        obtain ⟨m, hm, rfl, h0⟩ := hrel
        obtain ⟨d, hde⟩ : ∃ d, ds[m] = d := ⟨_, rfl⟩
        have hd10 : d < 10 := by rw [← hde]; exact lim_get hlm m hm
        have hc := HO.out.cell m (by rw [d8_len]; exact hm)
        have he : (d8 ds)[m]'(by rw [d8_len]; exact hm) = 48 + d := by rw [← hde]; simp [d8]
        rw [he] at hc
        have HDE := Lib.hid hde
        have H0 := Lib.hid h0
        clear hde he h0
        by_cases hd0 : d = 0
        · subst hd0
          have hm1 : m + 1 < ds.length := by
            rcases Nat.lt_or_ge (m + 1) ds.length with h | h
            · exact h
            · have hz := vl_pos_ex (ds := ds) (fun j hj => by
                by_cases e : j = m
                · subst e; exact HDE.out
                · exact H0.out j hj (by omega))
              have e := HR.out.eq
              rw [List.drop_zero, hz] at e
              exact absurd e.symm HNZ.out
          go_wp2
          go_round
          case rel => exact ⟨m + 1, hm1, by go_num, fun j hj h => by
            by_cases e : j = m
            · subst e; exact HDE.out
            · exact H0.out j hj (by omega)⟩
          case measure => simp [RowKit.intOf]; omega
        · have hdb : (((48 + d : Nat) : Int) == 48) = false := by rw [beq_eq_false_iff_ne]; omega
          have hdb2 : (48 + (d : Int) == 48) = false := by rw [beq_eq_false_iff_ne]; omega
          have HE := Lib.hid (show decs (vl D4 xs) = List.drop m (List.map db ds) by rw [rtxt_end HR.out HNZ.out hm H0.out (by rw [HDE.out]; exact hd0), List.map_drop])
          have hcv := conv_from wr w.heap.size g c3 m ds hlm HO.out (by omega)
          have hcm : ¬ c3 = m := by omega
          clear HO
          go_wp2
          go_ret
          exact ⟨by rw [HE.out]; rfl, hB⟩
    · have hlx : k < xs.length := hk
      obtain ⟨g, o, rfl, hc⟩ := (hra.below hB) k hlx
      obtain ⟨x, hxe, hxk⟩ := lim4 hL k hlx
      rw [hxe] at hc
      have hS := rtxt_step hR hlx hL
      rw [hxe] at hS
      have HS := Lib.hid hS
      have hown := hO.row (n := ds.length) (d8_len ds)
      have hsz := hB.size
      have hdb : ds.length ≤ 400000 := by omega
      have hw1 : IntKind.u8.wrap (48 + (x : Int) / 1000) = 48 + (x : Int) / 1000 := IntWalk.u8_in _ (by omega)
      have hw2 : IntKind.u8.wrap (48 + (x : Int) / 100 % 10) = 48 + (x : Int) / 100 % 10 := IntWalk.u8_in _ (by omega)
      have hw3 : IntKind.u8.wrap (48 + (x : Int) / 10 % 10) = 48 + (x : Int) / 10 % 10 := IntWalk.u8_in _ (by omega)
      have hw4 : IntKind.u8.wrap (48 + (x : Int) % 10) = 48 + (x : Int) % 10 := IntWalk.u8_in _ (by omega)
      clear hR hO hS hxe hdl hc3
      rw [show ((k + 1 : Nat) : Int) - 1 = (k : Int) by omega]
      go_wp2_with (at_builtin; refine wpList_append_own _ rfl _ _ 57 rfl w.heap.size 5 i0 (.int .u8 0) 1 1 Tryd.underlying57 hi hz0 hz1 hz2 rfl (by decide) _ _ _ rfl (hown.alloc _) ⟨wr.heap.size, 0, none⟩ 4 4 _ rfl rfl (cells_four _ _ _ _ _ _) ?c2 ?c3 ?c4 ?c5 ?_)
      case c2 => simp [Value.oneCell']
      case c3 => unfold maxLen; omega
      case c4 => omega
      case c5 => first | omega | (simp; omega)
      intro v' w4 hown' hgrow _
      have hB4 : Below w.heap.size w w4 := (hB.alloc hsz _).grown hgrow (by simp; omega) (fun z e => (hown.lt z e).1)
      have hO4 := Own.more (ys := d8 (quad x)) hown' (quad_cells (by omega) (by omega) (by omega) (by omega)) (d8_len ds).symm rfl
      rw [← d8_app] at hO4
      have HO1 := Lib.hid hO4
      clear hown hown' hgrow hO4 hw1 hw2 hw3 hw4
      go_wp2
      go_roundw
      case rel => exact ⟨k, ds ++ quad x, by omega, rfl, HO1.out, HS.out, hB4⟩
      case measure => simp [RowKit.intOf]
end Go.Proofs.YtelhbkfhalpniaaDoor

namespace Go.Proofs.YtelhbkfhalpniaaDoor
open Go.RowKit Go.Lib

theorem Own.slice_ {κ : IntKind} {w : World} {B : Nat} {t : TypeId} {v : Value} {xs : List Nat} (h : Own κ w B t v xs) : ∃ A cap, v = .slice A xs.length cap ∧ (A = none → cap = 0) := by
  rcases h.forms with ⟨rfl, rfl⟩ | ⟨g, cap, rfl, _, _, _⟩
  · exact ⟨none, 0, rfl, fun _ => rfl⟩
  · exact ⟨_, cap, rfl, fun e => by cases e⟩
theorem len_dig {n : Nat} (h : n < B32 ^ 256) : (dig B32 n).length ≤ 256 := (dig_len_le (by decide) n 256).2 h
theorem vld_dig {n : Nat} (h : n < B32 ^ 256) : vld (dig B32 n) = true := vld_iff.2 ⟨len_dig h, (dig_norm (by decide) n).2⟩
theorem res2_ok {xs ys : List Nat} {n : Nat} (hx : vld xs = true) (hy : vld ys = true) (h : n < B32 ^ 256) : res2 xs ys n = (dig B32 n, 0) := by
  rw [res2, if_pos ⟨hx, hy⟩, natRes, if_pos (len_dig h)]
theorem lim_dig (n : Nat) : Lim B32 (dig B32 n) := (dig_norm (by decide) n).1
end Go.Proofs.YtelhbkfhalpniaaDoor

namespace Go.Proofs.YtelhbkfhalpniaaDoor
open Go.RowKit Go.Lib Go.Joins

theorem cal_decs_one {m : Nat} (h : m < 10) : decs m = [db (m % 10)] := by
  have : ∀ m : Nat, m < 10 → decs m = [db (m % 10)] := by decide
  exact this m h
theorem cal_decs_step {m : Nat} (h : 10 ≤ m) : decs m = decs (m / 10) ++ [db (m % 10)] := by
  have h0 : m / 10 ≠ 0 := by omega
  have e : dig 10 m = m % 10 :: dig 10 (m / 10) := by
    refine dig_eq (by decide) ⟨lim_cons.2 ⟨Nat.mod_lt _ (by omega), (dig_norm (by decide) _).1⟩, ?_⟩ ?_
    · have := (dig_norm (B := 10) (by decide) (m / 10)).2
      have hn : dig 10 (m / 10) ≠ [] := fun e => h0 (dig_nil (by decide) e)
      unfold Top at *
      rw [List.getLast?_cons]
      rw [List.getLast?_eq_some_getLast hn] at this ⊢
      exact this
    · rw [vl_cons, dig_vl (by decide)]
      omega
  rw [decs, if_neg (by omega), e, decs, if_neg h0]
  simp
/-- The two ways of telling a number's digits are one. -/
theorem cal_decs (u : Nat) : decs u = Lib.decDigits u := by
  induction u using Nat.strongRecOn with
  | ind u ih =>
    rw [Lib.decDigits]
    by_cases h : u < 10
    · rw [dif_pos h, cal_decs_one h, Nat.mod_eq_of_lt h]
      rfl
    · rw [dif_neg h, cal_decs_step (by omega), ih (u / 10) (by omega)]
      rfl
def calSlen : Value → Nat | .string s => s.size | _ => 0
theorem byte_conv (pad : UInt8) (W : World) : (convert 57 9 (.slice (some ⟨W.heap.size, 0, none⟩) 1 1)).run Tryd.prog (W.alloc (.cells #[.int .u8 (pad.toNat : Nat)] 5)) = .ok (.string ⟨#[pad]⟩) (W.alloc (.cells #[.int .u8 (pad.toNat : Nat)] 5)) :=
  run_convert_bytes_back (P := Tryd.prog) (W.alloc (.cells #[.int .u8 (pad.toNat : Nat)] 5)) 57 9 5 ⟨W.heap.size, 0, none⟩ 1 [pad] Tryd.underlying57 Tryd.underlying5 Tryd.underlying9 (fun j hj => by
    obtain rfl : j = 0 := by simpa using hj
    exact cell_of_block (heap_alloc_new W (.cells #[.int .u8 (pad.toNat : Nat)] 5)) 0)
set_option maxRecDepth 100000 in
set_option maxHeartbeats 4000000 in
theorem rNumber_any (n : Int) (k : Nat) (pad : UInt8) (w : World) (h0 : -4611686018427387904 ≤ n) (h1 : n ≤ 4611686018427387904) (hk : k ≤ 100) (hs : 0 ≤ n ∨ k ≤ 1) : Calls Tryd.prog 32 #[.int .i64 n, .int .i64 k, .int .u8 (pad.toNat : Nat)] w fun e w' => e = .returned (.string ⟨(padL n k pad).toArray⟩) ∧ Below w.heap.size w w' := by
  obtain ⟨z, hz⟩ : ∃ z : Nat, n.natAbs = z := ⟨_, rfl⟩
  have hmx : max n (-n) = (z : Int) := by omega
  have hmx2 : max n (IntKind.i64.wrap (-n)) = (z : Int) := by rw [IntKind.wrap_i64]; omega
  have hD : (Lib.itoa n).length ≤ 21 := Lib.itoa_length_le n (by omega) (by omega)
  have hdg : decs z = Lib.decDigits z := cal_decs z
  have hit : Lib.itoa n = if n < 0 then 45 :: decs z else decs z := by
    unfold Lib.itoa
    rw [hdg, ← hz]
    split
    · rfl
    · rw [show n.toNat = n.natAbs by omega]
  have hDp : 1 ≤ (decs z).length := by
    rw [hdg, Lib.decDigits]
    split
    · exact Nat.le_refl _
    · rw [List.length_append]
      exact Nat.le_add_left _ _
  obtain ⟨D, hDD⟩ : ∃ D, decs z = D := ⟨_, rfl⟩
  rw [hDD] at hit hDp
  have hDl : D.length ≤ 21 := by
    rw [hit] at hD
    split at hD
    · simp only [List.length_cons] at hD; omega
    · exact hD
  have hdl : (dig D4 z).length ≤ 100000 := by
    have e : D4 ^ 6 = 1000000000000000000000000 := by decide
    have h6 := (dig_len_le (B := D4) (by decide) z 6).2 (by rw [e]; omega)
    omega
  have CS := Lib.hid (fun (W : World) => small_any z W (by omega))
  have CT := (fun (A : Option Addr) (ca : Nat) (W : World) (hr : Rd .i64 W A (dig D4 z)) => rtext_any A ca (dig D4 z) W (dig_norm (by decide) z) hdl hr)
  rw [dig_vl (by decide), hDD] at CT
  have CT := Lib.hid CT
  have HCV := Lib.hid (byte_conv pad)
  have HIT := Lib.hid hit
  clear hit hdg hD hDD hdl
  go_enter Tryd.func32, Tryd.ntmps32
  go_wp2_with fail
  refine (CS.out _).mono ?_
  rintro e W1 ⟨v, rfl, o, nb⟩
  obtain ⟨A1, d1, rfl, _⟩ := o.slice_
  have Q1 := Lib.hid o.rd
  have HB1 := Lib.hid nb
  clear o nb
  go_wp2_with fail
  refine (CT.out A1 _ _ Q1.out).mono ?_
  rintro e W2 ⟨rfl, h2⟩
  have HB2 := Lib.hid (first_bel HB1.out h2)
  clear h2 Q1
  go_wp2_with fail
  go_loopw [7] (fun sv wr => ∃ (j : Nat) (S : ByteArray), sv = .string S ∧ S = ⟨(List.replicate j pad ++ D).toArray⟩ ∧ (j = 0 ∨ j + D.length ≤ k) ∧ Below w.heap.size w wr) (fun sv _ => k + 30 - calSlen sv)
  case atStart => exact ⟨0, _, rfl, rfl, Or.inl rfl, HB2.out⟩
  case round =>
    obtain ⟨j, S, rfl, hS, hj, hb⟩ := hrel
    have hsz : S.size = j + D.length := by
      rw [hS]
      show (List.replicate j pad ++ D).length = _
      rw [List.length_append, List.length_replicate]
    have HBr := Lib.hid hb
    have hcv := HCV.out wr
    clear hb HB2
    by_cases hlt : j + D.length < k
    · have g1 : (S.size : Int) < (k : Int) := by omega
      obtain ⟨S2, hS2⟩ : ∃ S2 : ByteArray, (⟨#[pad]⟩ : ByteArray) ++ S = S2 := ⟨_, rfl⟩
      have hS3 : S2 = ⟨(List.replicate (j + 1) pad ++ D).toArray⟩ := by
        rw [← hS2, hS, cal_cat [pad] (List.replicate j pad ++ D), List.replicate_succ]
        rfl
      have hsz2 : S2.size = j + 1 + D.length := by
        rw [hS3]
        show (List.replicate (j + 1) pad ++ D).length = _
        rw [List.length_append, List.length_replicate]
      have hle : ¬ 9223372036854775807 < (⟨#[pad]⟩ : ByteArray).size + S.size := by
        have e1 : (⟨#[pad]⟩ : ByteArray).size = 1 := rfl
        omega
      have HS3 := Lib.hid hS3
      clear hS hS3
      go_wp2_with fail
      go_roundw
      case rel => exact ⟨j + 1, S2, rfl, HS3.out, Or.inr (by omega), HBr.out.alloc HBr.out.size _⟩
      case measure => show k + 30 - S2.size < k + 30 - S.size; omega
    · have g1 : ¬ (S.size : Int) < (k : Int) := by omega
      have hjj : k - D.length = j ∨ (j = 0 ∧ k ≤ D.length) := by omega
      by_cases hn : n < 0
      · have HR := Lib.hid (show padL n k pad = 45 :: D from by
          unfold padL
          rw [HIT.out, if_pos hn, List.length_cons, show k - (D.length + 1) = 0 by omega]
          rfl)
        have hj0 : j = 0 := by omega
        subst hj0
        have hcat := cal_cat [45] (List.replicate 0 pad ++ D)
        have hle : ¬ 9223372036854775807 < (⟨#[45]⟩ : ByteArray).size + S.size := by
          have e1 : (⟨#[45]⟩ : ByteArray).size = 1 := rfl
          omega
        have HS := Lib.hid hS
        have HC := Lib.hid hcat
        clear hS hcat hcv
        go_wp2_with fail
        go_ret
        refine ⟨?_, HBr.out⟩
        rw [HR.out]
        show Ending.returned (.string ((⟨#[45]⟩ : ByteArray) ++ S)) = _
        rw [HS.out, HC.out]
        rfl
      · have HR := Lib.hid (show padL n k pad = List.replicate j pad ++ D from by
          unfold padL
          rw [HIT.out, if_neg hn]
          congr 1
          congr 1
          omega)
        have HS := Lib.hid hS
        clear hS hcv
        go_wp2_with fail
        go_ret
        refine ⟨?_, HBr.out⟩
        rw [HR.out, ← HS.out]
        rfl
end Go.Proofs.YtelhbkfhalpniaaDoor

namespace Go.Proofs.YtelhbkfhalpniaaDoor
open Go.RowKit Go.Lib Go.Joins

set_option maxRecDepth 100000 in
theorem rLeap_any (y : Int) (w : World) : Calls Tryd.prog 47 #[.int .i64 y] w fun e w' => e = .returned (.bool (leapZ y)) ∧ w = w' := by
  have h4 := tmod_zero y 4
  have h100 := tmod_zero y 100
  have h400 := tmod_zero y 400
  obtain ⟨a, ha⟩ : ∃ a, y.tmod 4 = a := ⟨_, rfl⟩
  obtain ⟨b, hb⟩ : ∃ b, y.tmod 100 = b := ⟨_, rfl⟩
  obtain ⟨c, hc⟩ : ∃ c, y.tmod 400 = c := ⟨_, rfl⟩
  rw [ha] at h4
  rw [hb] at h100
  rw [hc] at h400
  have H4 := Lib.hid h4
  have H100 := Lib.hid h100
  have H400 := Lib.hid h400
  clear h4 h100 h400
  go_enter Tryd.func47, Tryd.ntmps47
  go_wp2_with fail
  all_goals
    go_ret
    refine ⟨?_, rfl⟩
    unfold leapZ
  · rename_i p q
    rw [beq_iff_eq.2 (H4.out.1 p), beq_iff_eq.2 (H100.out.1 q), Bool.true_and, Bool.not_true, Bool.false_or]
    have e : (y % 400 == 0) = (c == 0) := by rw [Bool.eq_iff_iff, beq_iff_eq, beq_iff_eq]; exact H400.out.symm
    rw [e]
    rfl
  · rename_i p q
    rw [beq_iff_eq.2 (H4.out.1 p), beq_eq_false_iff_ne.2 (fun h => q (H100.out.2 h)), Bool.true_and, Bool.not_false, Bool.true_or]
    rfl
  · rename_i p
    rw [beq_eq_false_iff_ne.2 (fun h => p (H4.out.2 h)), Bool.false_and]
    rfl
/-- A year's days, a month's. -/
def yLen (y : Int) : Int := if leapZ y then 366 else 365
def mLen (l : Bool) (m : Int) : Int := dW l (m + 1) - dW l m
set_option maxRecDepth 100000 in
theorem rYear_any (y : Int) (w : World) : Calls Tryd.prog 27 #[.int .i64 y] w fun e w' => e = .returned (.int .i64 (yLen y)) ∧ w = w' := by
  have C := rLeap_any y w
  unfold yLen
  generalize leapZ y = l at *
  have C := Lib.hid C
  cases l
  all_goals
    go_enter Tryd.func27, Tryd.ntmps27
    go_wp2_with fail
    refine C.out.mono ?_
    rintro e w' ⟨rfl, rfl⟩
    go_wp2_with fail
    go_ret
    exact ⟨rfl, rfl⟩
set_option maxRecDepth 100000 in
set_option maxHeartbeats 2000000 in
theorem rLength_any (y m : Int) (w : World) (h1 : 1 ≤ m) (h2 : m ≤ 12) : Calls Tryd.prog 28 #[.int .i64 y, .int .i64 m] w fun e w' => e = .returned (.int .i64 (mLen (leapZ y) m)) ∧ w = w' := by
  have C := rLeap_any y w
  have hm : m = 1 ∨ m = 2 ∨ m = 3 ∨ m = 4 ∨ m = 5 ∨ m = 6 ∨ m = 7 ∨ m = 8 ∨ m = 9 ∨ m = 10 ∨ m = 11 ∨ m = 12 := by omega
  generalize leapZ y = l at *
  have C := Lib.hid C
  rcases hm with rfl | rfl | rfl | rfl | rfl | rfl | rfl | rfl | rfl | rfl | rfl | rfl
  case inr.inl =>
    cases l
    all_goals
      go_enter Tryd.func28, Tryd.ntmps28
      go_wp2_with fail
      refine C.out.mono ?_
      rintro e w' ⟨rfl, rfl⟩
      go_wp2_with fail
      go_ret
      exact ⟨rfl, rfl⟩
  all_goals
    go_enter Tryd.func28, Tryd.ntmps28
    go_wp2_with fail
    go_ret
    cases l <;> exact ⟨rfl, rfl⟩
set_option maxRecDepth 100000 in
theorem rOf_no (t : Int) (w : World) (h : ¬ (-62135596800 ≤ t ∧ t ≤ 253402300799)) : Calls Tryd.prog 12 #[.int .i64 t] w fun e w' => e = .returned (.tuple #[dateV noDate, .int .i64 1]) ∧ Below w.heap.size w w' := by
  have h' : t < -62135596800 ∨ (-62135596800 ≤ t ∧ 253402300799 < t) := by omega
  clear h
  rcases h' with h1 | ⟨h1, h2⟩
  all_goals
    go_enter Tryd.func12, Tryd.ntmps12
    go_wp2_with fail
    (try simp only [Exit.inBlock, Exit.then])
    refine bodyPost_ret (v := .tuple #[dateV noDate, .int .i64 1]) ?_ rfl ⟨rfl, ?_⟩
    · rw [results_cell_tmp rfl]
      go_simp
      rfl
    · repeat' (first | exact Below.refl _ _ | refine Below.drew ?_ | refine Below.alloc ?_ (by simp <;> omega) _)
/-- One number of a date in memory, set. -/
theorem date_set {W : World} {g i : Nat} {cs : Array Value} (h : W.heap[g]? = some (.cells cs 32 (0, 0))) (v : Int) : (W.setCell ⟨g, i, none⟩ (.int .i64 v)).heap[g]? = some (.cells (cs.setIfInBounds i (.int .i64 v)) 32 (0, 0)) := block_setCell h _
/-- What the first loop of Of meets: the year that has been reached. -/
structure OfSt (w wr : World) (B : Nat) (x : DateZ) (y m d yd : Int) : Prop where
  row : wr.heap[B + 1]? = some (.cells #[.int .i64 y, .int .i64 m, .int .i64 d, .int .i64 x.hh, .int .i64 x.mm, .int .i64 x.ss, .int .i64 x.wk, .int .i64 yd] 32 (0, 0))
  out : wr.heap[B]? = some (.cells #[.int .i64 0, .int .i64 0, .int .i64 0, .int .i64 0, .int .i64 0, .int .i64 0, .int .i64 0, .int .i64 0] 32 (0, 0))
  bel : Below B w wr
theorem OfSt.setY {w wr : World} {B : Nat} {x : DateZ} {y m d yd : Int} (h : OfSt w wr B x y m d yd) (v : Int) : OfSt w (wr.setCell ⟨B + 1, 0, none⟩ (.int .i64 v)) B x v m d yd := by
  have z := date_set h.row (i := 0) v
  simp only [List.setIfInBounds_toArray, List.set_cons_zero] at z
  exact ⟨z, (Below.heap_setCell wr ⟨B + 1, 0, none⟩ (.int .i64 v) B (by show B ≠ B + 1; omega)).trans h.out, h.bel.setCell (p := ⟨B + 1, 0, none⟩) (Nat.le_succ _) _⟩
theorem OfSt.setM {w wr : World} {B : Nat} {x : DateZ} {y m d yd : Int} (h : OfSt w wr B x y m d yd) (v : Int) : OfSt w (wr.setCell ⟨B + 1, 1, none⟩ (.int .i64 v)) B x y v d yd := by
  have z := date_set h.row (i := 1) v
  simp only [List.setIfInBounds_toArray, List.set_cons_zero, List.set_cons_succ] at z
  exact ⟨z, (Below.heap_setCell wr ⟨B + 1, 1, none⟩ (.int .i64 v) B (by show B ≠ B + 1; omega)).trans h.out, h.bel.setCell (p := ⟨B + 1, 1, none⟩) (Nat.le_succ _) _⟩
theorem OfSt.setD {w wr : World} {B : Nat} {x : DateZ} {y m d yd : Int} (h : OfSt w wr B x y m d yd) (v : Int) : OfSt w (wr.setCell ⟨B + 1, 2, none⟩ (.int .i64 v)) B x y m v yd := by
  have z := date_set h.row (i := 2) v
  simp only [List.setIfInBounds_toArray, List.set_cons_zero, List.set_cons_succ] at z
  exact ⟨z, (Below.heap_setCell wr ⟨B + 1, 2, none⟩ (.int .i64 v) B (by show B ≠ B + 1; omega)).trans h.out, h.bel.setCell (p := ⟨B + 1, 2, none⟩) (Nat.le_succ _) _⟩
theorem OfSt.setJ {w wr : World} {B : Nat} {x : DateZ} {y m d yd : Int} (h : OfSt w wr B x y m d yd) (v : Int) : OfSt w (wr.setCell ⟨B + 1, 7, none⟩ (.int .i64 v)) B x y m d v := by
  have z := date_set h.row (i := 7) v
  simp only [List.setIfInBounds_toArray, List.set_cons_zero, List.set_cons_succ] at z
  exact ⟨z, (Below.heap_setCell wr ⟨B + 1, 7, none⟩ (.int .i64 v) B (by show B ≠ B + 1; omega)).trans h.out, h.bel.setCell (p := ⟨B + 1, 7, none⟩) (Nat.le_succ _) _⟩
theorem OfSt.at {w wr : World} {B : Nat} {x : DateZ} {y m d yd : Int} (h : OfSt w wr B x y m d yd) : wr.cell? ⟨B + 1, 0, none⟩ = some (.int .i64 y) ∧ wr.cell? ⟨B + 1, 1, none⟩ = some (.int .i64 m) ∧ wr.cell? ⟨B + 1, 2, none⟩ = some (.int .i64 d) ∧ wr.cell? ⟨B + 1, 7, none⟩ = some (.int .i64 yd) ∧ wr.frozen? ⟨B + 1, 0, none⟩ = false ∧ wr.frozen? ⟨B + 1, 1, none⟩ = false ∧ wr.frozen? ⟨B + 1, 2, none⟩ = false ∧ wr.frozen? ⟨B + 1, 7, none⟩ = false :=
  ⟨cell_of_block h.row 0, cell_of_block h.row 1, cell_of_block h.row 2, cell_of_block h.row 7, unfrozen_of_block h.row 0, unfrozen_of_block h.row 1, unfrozen_of_block h.row 2, unfrozen_of_block h.row 7⟩
set_option maxRecDepth 100000 in
set_option maxHeartbeats 4000000 in
theorem rOf_yes (t : Int) (x : DateZ) (w : World) (h : DateIs t x) (h0 : -62135596800 ≤ t) (h1 : t ≤ 253402300799) : Calls Tryd.prog 12 #[.int .i64 t] w fun e w' => e = .returned (.tuple #[dateV x, .int .i64 0]) ∧ Below w.heap.size w w' := by
  have CY := Lib.hid (fun (y : Int) (W : World) => rYear_any y W)
  have CL := Lib.hid (fun (y m : Int) (W : World) (a : 1 ≤ m) (b : m ≤ 12) => rLength_any y m W a b)
  obtain ⟨b1, b2, b3, b4, b5, b6, b7, b8, b9, b10, b11, b12, b13, b14, b15, b16⟩ := h.bounds h0 h1
  obtain ⟨D, hD⟩ : ∃ D, (t + 62135596800) / 86400 = D := ⟨_, rfl⟩
  obtain ⟨R, hR⟩ : ∃ R, (t + 62135596800) % 86400 = R := ⟨_, rfl⟩
  have d1 : 0 ≤ D ∧ D ≤ 3652058 := by omega
  have d2 : 0 ≤ R ∧ R < 86400 := by omega
  have H := Lib.hid h
  have hh := h.hh
  have hm := h.mm
  have hs := h.ss
  have hw := h.wk
  rw [hR] at hh hm hs
  rw [hD] at hw
  clear h
  go_enter Tryd.func12, Tryd.ntmps12
  go_wp2_with fail
  simp only [hD, hR]
  rw [← hh, ← hm, ← hs, ← hw]
  have hr1 := calFirst_new w calDateO (.cells #[.int .i64 1, .int .i64 1, .int .i64 0, .int .i64 x.hh, .int .i64 x.mm, .int .i64 x.ss, .int .i64 x.wk, .int .i64 0] 32)
  have hr2 := calSecond_new w calDateO (.cells #[.int .i64 1, .int .i64 1, .int .i64 0, .int .i64 x.hh, .int .i64 x.mm, .int .i64 x.ss, .int .i64 x.wk, .int .i64 0] 32)
  have hbb := below_alloc2 w calDateO (.cells #[.int .i64 1, .int .i64 1, .int .i64 0, .int .i64 x.hh, .int .i64 x.mm, .int .i64 x.ss, .int .i64 x.wk, .int .i64 0] 32)
  unfold calDateO at hr1 hr2 hbb
  obtain ⟨W2, hW2⟩ : ∃ W2, (w.alloc (.cells #[.int .i64 0, .int .i64 0, .int .i64 0, .int .i64 0, .int .i64 0, .int .i64 0, .int .i64 0, .int .i64 0] 32)).alloc (.cells #[.int .i64 1, .int .i64 1, .int .i64 0, .int .i64 x.hh, .int .i64 x.mm, .int .i64 x.ss, .int .i64 x.wk, .int .i64 0] 32) = W2 := ⟨_, rfl⟩
  rw [hW2] at hr1 hr2 hbb ⊢
  obtain ⟨B, hB⟩ : ∃ B, w.heap.size = B := ⟨_, rfl⟩
  rw [hB] at hr1 hr2 hbb ⊢
  have ST0 := Lib.hid (show OfSt w W2 B x 1 1 0 0 from ⟨hr2, hr1, hbb⟩)
  have HB := Lib.hid hB
  clear hW2 hr1 hr2 hbb hB
  have l1 := H.out.low
  have l2 := H.out.high
  rw [hD] at l1 l2
  have HDD := Lib.hid hD
  clear hh hm hs hw hD hR
  go_loopw [4] (fun dv wr => ∃ Y : Int, dv = .int .i64 (D - dA Y) ∧ 1 ≤ Y ∧ Y ≤ x.y ∧ dA Y ≤ D ∧ OfSt w wr B x Y 1 0 0) (fun dv _ => (RowKit.intOf dv).toNat)
  case atStart => exact ⟨1, by rw [show dA 1 = 0 by decide, Int.sub_zero], by omega, b1, by rw [show dA 1 = 0 by decide]; exact d1.1, ST0.out⟩
  case round =>
    obtain ⟨Y, rfl, y1, y2, y3, st⟩ := hrel
    clear ST0
    have hsucc := dA_succ Y
    have hyl : 365 ≤ yLen Y ∧ yLen Y ≤ 366 ∧ dA (Y + 1) = dA Y + yLen Y := by unfold yLen; rw [hsucc]; split <;> omega
    obtain ⟨L, hL⟩ : ∃ L, yLen Y = L := ⟨_, rfl⟩
    rw [hL] at hyl
    have hdb : 0 ≤ dA Y := by
      have h1 := dA_mono y1
      have h2 : dA 1 = 0 := by decide
      omega
    obtain ⟨A, hA⟩ : ∃ A, dA Y = A := ⟨_, rfl⟩
    have ST := Lib.hid st
    obtain ⟨c0, c1, c2, c7, f0, f1, f2, f7⟩ := st.at
    clear st
    have HSU := Lib.hid hsucc
    have HL := Lib.hid hL
    have HA := Lib.hid hA
    rw [hA] at y3 hyl hdb ⊢
    clear hsucc hL hA
    by_cases hlt : L ≤ D - A
    · have y4 : Y + 1 ≤ x.y := by
        rcases Int.lt_or_le Y x.y with hc | hc
        · omega
        · have := dA_mono (show x.y + 1 ≤ Y + 1 by omega)
          omega
      have hnew : D - A - L = D - dA (Y + 1) := by rw [hyl.2.2]; omega
      have HNEW := Lib.hid hnew
      have hle : dA (Y + 1) ≤ D := by omega
      have HLE := Lib.hid hle
      clear hnew hle
      go_wp2_with fail
      refine (CY.out Y _).mono ?_
      rintro e w' ⟨rfl, rfl⟩
      rw [HL.out]
      go_wp2_with fail
      refine (CY.out Y _).mono ?_
      rintro e w' ⟨rfl, rfl⟩
      rw [HL.out]
      go_wp2_with fail
      go_roundw
      case rel => exact ⟨Y + 1, by rw [HNEW.out], by omega, y4, HLE.out, ST.out.setY (Y + 1)⟩
      case measure => simp [RowKit.intOf]; omega
    · have hY : Y = x.y := year_uniq (d := D) (by rw [HA.out]; exact y3) (by omega) l1 l2
      subst hY
      have hyd := H.out.yd
      have hn1 := H.out.ahead
      have hn2 := H.out.behind
      have hxd := H.out.d
      have hDt : (t + 62135596800) / 86400 = D := HDD.out
      rw [hDt, HA.out] at hyd
      obtain ⟨l, hl⟩ : ∃ l, leapZ x.y = l := ⟨_, rfl⟩
      rw [hl] at hn1 hn2 hxd
      have HLL := Lib.hid hl
      have HXD := Lib.hid hxd
      have hgo : D - A = x.yd - 1 := by omega
      rw [hgo] at hlt ⊢
      have hgo2 : x.yd - 1 + 1 = x.yd := by omega
      have hMono := Lib.hid (fun (m : Int) (p : 1 ≤ m) (q : m ≤ x.m) => (show (dW l (m + 1) ≤ x.yd - 1 → m + 1 ≤ x.m) ∧ (¬ dW l (m + 1) ≤ x.yd - 1 → m = x.m) from by
        refine ⟨fun hc => ?_, fun hc => ?_⟩
        · rcases Int.lt_or_le m x.m with h4 | h4
          · omega
          · have : m = x.m := by omega
            subst this
            omega
        · rcases Int.lt_or_le m x.m with h4 | h4
          · have := dW_mono (l := l) (a := m + 1) (b := x.m) (by omega) (by omega) (by omega)
            omega
          · omega))
      clear hyd hn1 hn2 hxd hDt hl hgo HSU
      go_wp2_with fail
      refine (CY.out x.y _).mono ?_
      rintro e w' ⟨rfl, rfl⟩
      rw [HL.out]
      go_wp2_with fail
      have ST7 := Lib.hid (ST.out.setJ x.yd)
      clear ST c0 c1 c2 c7 f0 f1 f2 f7
      go_loopw [4] (fun dv wr => ∃ m : Int, dv = .int .i64 (x.yd - 1 - dW l m) ∧ 1 ≤ m ∧ m ≤ x.m ∧ OfSt w wr B x x.y m 0 x.yd) (fun dv _ => (RowKit.intOf dv).toNat)
      case atStart => exact ⟨1, by rw [dW_1, Int.sub_zero], by omega, b3, ST7.out⟩
      case round =>
        obtain ⟨m, rfl, m1, m2, st⟩ := hrel
        clear ST7
        obtain ⟨M1, M2⟩ := hMono.out m m1 m2
        have CLm := fun (W : World) => CL.out x.y m W m1 (by omega)
        unfold mLen at CLm
        rw [HLL.out] at CLm
        have vb := dW_bounds (l := l) (m := m) m1 (by omega)
        have vb2 := dW_bounds (l := l) (m := m + 1) (by omega) (by omega)
        have vlen := dW_len (l := l) (m := m) m1 (by omega)
        obtain ⟨V2, hV2⟩ : ∃ V2, dW l (m + 1) = V2 := ⟨_, rfl⟩
        obtain ⟨V, hV⟩ : ∃ V, dW l m = V := ⟨_, rfl⟩
        rw [hV2] at M1 M2 CLm vb2 vlen
        rw [hV] at CLm vb vlen ⊢
        have ST := Lib.hid st
        obtain ⟨c0, c1, c2, c7, f0, f1, f2, f7⟩ := st.at
        have HV := Lib.hid hV
        have HV2 := Lib.hid hV2
        have CLm := Lib.hid CLm
        clear st hV hV2
        by_cases hlt : V2 - V ≤ x.yd - 1 - V
        · have m3 := M1 (by omega)
          clear M1 M2
          have hnew : x.yd - 1 - V - (V2 - V) = x.yd - 1 - dW l (m + 1) := by rw [HV2.out]; omega
          have HNEW := Lib.hid hnew
          clear hnew
          go_wp2_with fail
          refine (CLm.out _).mono ?_
          rintro e w' ⟨rfl, rfl⟩
          go_wp2_with fail
          refine (CLm.out _).mono ?_
          rintro e w' ⟨rfl, rfl⟩
          go_wp2_with fail
          go_roundw
          case rel => exact ⟨m + 1, by rw [HNEW.out], by omega, m3, ST.out.setM (m + 1)⟩
          case measure => simp [RowKit.intOf]; omega
        · have m3 := M2 (by omega)
          clear M1 M2
          subst m3
          have hxd := HXD.out
          rw [HV.out] at hxd
          obtain ⟨E, hE⟩ : ∃ E, x.yd - 1 - V = E := ⟨_, rfl⟩
          rw [hE] at hlt ⊢
          have hE1 : E + 1 = x.d := by omega
          have hE0 : 0 ≤ E ∧ E ≤ 366 := by omega
          have HXE := Lib.hid hxd
          clear hE hxd
          go_wp2_with fail
          refine (CLm.out _).mono ?_
          rintro e w' ⟨rfl, rfl⟩
          have ST2 := Lib.hid (ST.out.setD x.d)
          obtain ⟨W5, hW5⟩ : ∃ W5, wr.setCell ⟨B + 1, 2, none⟩ (.int .i64 x.d) = W5 := ⟨_, rfl⟩
          rw [hW5] at ST2
          obtain ⟨k0, k1, k2, k3, k4, k5, k6, k7⟩ := date_facts (th := x) ST2.out.row
          obtain ⟨q0, q1, q2, q3, q4, q5, q6, q7, y0, y1, y2, y3, y4, y5, y6, y7⟩ := zero_facts ST2.out.out
          go_wp2_with fail
          (try simp only [Exit.inBlock, Exit.then])
          refine bodyPost_ret (v := .tuple #[dateV x, .int .i64 0]) ?_ rfl ⟨rfl, ?_⟩
          · rw [results_cell_tmp rfl]
            have hl := run_loadVar_row (P := Tryd.prog) (set8 W5 B x) B 32 32 _ (0, 0) _ (set8_here ST2.out.out x) Tryd.underlying32 rfl (by kernel_rfl)
            show ((asAddr (.pointer (some ⟨B, 0, none⟩))).run Tryd.prog (set8 W5 B x)).andThen _ = _
            simp only [asAddr, Sem.run_pure, Result.andThen, hl]
            rfl
          · rw [HB.out]
            exact set8_below x ST2.out.bel (Nat.le_refl _)
end Go.Proofs.YtelhbkfhalpniaaDoor

namespace Go.Proofs.YtelhbkfhalpniaaDoor
open Go.RowKit Go.Lib Go.Joins

theorem cal_ylen (y : Int) : 365 ≤ yLen y ∧ yLen y ≤ 366 ∧ dA (y + 1) = dA y + yLen y := by
  have := dA_succ y
  unfold yLen
  rw [this]
  split <;> omega
/-- The Thursday's year and its day of the year, by the day's own. -/
theorem cal_iso {x th : DateZ} {t : Int} (h : Mom x th t) : (x.yd - (x.wk + 6) % 7 + 3 < 1 → th.y = x.y - 1 ∧ th.yd = x.yd - (x.wk + 6) % 7 + 3 + yLen (x.y - 1)) ∧ (1 ≤ x.yd - (x.wk + 6) % 7 + 3 → x.yd - (x.wk + 6) % 7 + 3 ≤ yLen x.y → th.y = x.y ∧ th.yd = x.yd - (x.wk + 6) % 7 + 3) ∧ (yLen x.y < x.yd - (x.wk + 6) % 7 + 3 → th.y = x.y + 1 ∧ th.yd = x.yd - (x.wk + 6) % 7 + 3 - yLen x.y) := by
  obtain ⟨s, hs⟩ : ∃ s, (x.wk + 6) % 7 = s := ⟨_, rfl⟩
  have hsb : 0 ≤ s ∧ s < 7 := by omega
  have hth := h.th
  rw [hs] at hth ⊢
  have l1 := h.d.low
  have l2 := h.d.high
  have l3 := h.d.yd
  have k1 := hth.low
  have k2 := hth.high
  have k3 := hth.yd
  clear hth hs
  obtain ⟨D, hD⟩ : ∃ D, (t + 62135596800) / 86400 = D := ⟨_, rfl⟩
  have hD2 : (t + (3 - s) * 86400 + 62135596800) / 86400 = D + 3 - s := by omega
  rw [hD] at l1 l2 l3
  rw [hD2] at k1 k2 k3
  clear hD hD2
  have e0 := cal_ylen (x.y - 1)
  have e1 := cal_ylen x.y
  have e2 := cal_ylen (x.y + 1)
  rw [show x.y - 1 + 1 = x.y by omega] at e0
  refine ⟨fun a => ?_, fun a b => ?_, fun a => ?_⟩
  · have e : th.y = x.y - 1 := year_uniq k1 k2 (by omega) (by rw [show x.y - 1 + 1 = x.y by omega]; omega)
    rw [e] at k3
    exact ⟨e, by omega⟩
  · have e : th.y = x.y := year_uniq k1 k2 (by omega) (by omega)
    rw [e] at k3
    exact ⟨e, by omega⟩
  · have e : th.y = x.y + 1 := year_uniq k1 k2 (by omega) (by omega)
    rw [e] at k3
    exact ⟨e, by omega⟩
set_option maxRecDepth 100000 in
set_option maxHeartbeats 2000000 in
theorem rIso_any {x th : DateZ} {t : Int} (h : Mom x th t) (w : World) : Calls Tryd.prog 29 #[dateV x] w fun e w' => e = .returned (.tuple #[.int .i64 th.y, .int .i64 ((th.yd + 6) / 7)]) ∧ Below w.heap.size w w' := by
  have CY := Lib.hid (fun (y : Int) (W : World) => rYear_any y W)
  obtain ⟨i1, i2, i3⟩ := cal_iso h
  obtain ⟨⟨a1, a2⟩, _, _, _, _, _, ⟨a3, a4⟩, ⟨a5, a6⟩⟩ := h.fair
  obtain ⟨s, hs⟩ : ∃ s, (x.wk + 6) % 7 = s := ⟨_, rfl⟩
  have hsb : 0 ≤ s ∧ s < 7 := by omega
  obtain ⟨n, hn⟩ : ∃ n, x.yd - s + 3 = n := ⟨_, rfl⟩
  rw [hs, hn] at i1 i2 i3
  have hnb : -2 ≤ n ∧ n ≤ 369 := by omega
  have y0 := cal_ylen (x.y - 1)
  have y1 := cal_ylen x.y
  obtain ⟨L0, hL0⟩ : ∃ L, yLen (x.y - 1) = L := ⟨_, rfl⟩
  obtain ⟨L1, hL1⟩ : ∃ L, yLen x.y = L := ⟨_, rfl⟩
  rw [hL0] at i1 y0
  rw [hL1] at i2 i3 y1
  have I1 := Lib.hid i1
  have I2 := Lib.hid i2
  have I3 := Lib.hid i3
  have HL0 := Lib.hid hL0
  have HL1 := Lib.hid hL1
  clear i1 i2 i3 hL0 hL1 h
  unfold dateV
  have hc : n < 1 ∨ (1 ≤ n ∧ n ≤ L1) ∨ (1 ≤ n ∧ L1 < n) := by omega
  go_enter Tryd.func29, Tryd.ntmps29
  go_wp2_with fail
  have z1 := heap_alloc_new w (.cells #[.int .i64 x.y, .int .i64 x.m, .int .i64 x.d, .int .i64 x.hh, .int .i64 x.mm, .int .i64 x.ss, .int .i64 x.wk, .int .i64 x.yd] 32)
  have hb := below_alloc1 w (.cells #[.int .i64 x.y, .int .i64 x.m, .int .i64 x.d, .int .i64 x.hh, .int .i64 x.mm, .int .i64 x.ss, .int .i64 x.wk, .int .i64 x.yd] 32)
  obtain ⟨W1, hW1⟩ : ∃ W1, w.alloc (.cells #[.int .i64 x.y, .int .i64 x.m, .int .i64 x.d, .int .i64 x.hh, .int .i64 x.mm, .int .i64 x.ss, .int .i64 x.wk, .int .i64 x.yd] 32) = W1 := ⟨_, rfl⟩
  rw [hW1] at z1 hb ⊢
  clear hW1
  obtain ⟨B, hB⟩ : ∃ B, w.heap.size = B := ⟨_, rfl⟩
  rw [hB] at z1 hb ⊢
  obtain ⟨c0, c1, c2, c3, c4, c5, c6, c7⟩ := date_facts z1
  have HB := Lib.hid hB
  have HBB := Lib.hid hb
  clear hB hb z1 c1 c2 c3 c4 c5 c6
  rw [hs]
  have w1 : IntKind.i64.wrap (x.yd - s) = x.yd - s := by rw [IntKind.wrap_i64]; omega
  have w2 : IntKind.i64.wrap (x.yd - s + 3) = n := by rw [IntKind.wrap_i64]; omega
  go_quiet (fail)
  clear w1 w2 c0 c7 hs hn
  rcases hc with g | ⟨g, g'⟩ | ⟨g, g'⟩
  · obtain ⟨J1, J2⟩ := I1.out g
    have J1 := Lib.hid J1
    have J2 := Lib.hid J2
    go_wp2_with fail
    refine (CY.out (x.y - 1) _).mono ?_
    rintro e w' ⟨rfl, rfl⟩
    rw [HL0.out]
    go_wp2_with fail
    go_ret2
    rw [HB.out, J1.out, J2.out]
    exact ⟨rfl, HBB.out.trans (below_draws _ _ _)⟩
  · obtain ⟨J1, J2⟩ := I2.out g g'
    have J1 := Lib.hid J1
    have J2 := Lib.hid J2
    go_wp2_with fail
    refine (CY.out x.y _).mono ?_
    rintro e w' ⟨rfl, rfl⟩
    rw [HL1.out]
    go_wp2_with fail
    go_ret2
    rw [HB.out, J1.out, J2.out]
    exact ⟨rfl, HBB.out.trans (below_draws _ _ _)⟩
  · obtain ⟨J1, J2⟩ := I3.out g'
    have J1 := Lib.hid J1
    have J2 := Lib.hid J2
    go_wp2_with fail
    refine (CY.out x.y _).mono ?_
    rintro e w' ⟨rfl, rfl⟩
    rw [HL1.out]
    go_wp2_with fail
    refine (CY.out x.y _).mono ?_
    rintro e w' ⟨rfl, rfl⟩
    rw [HL1.out]
    go_wp2_with fail
    go_ret2
    rw [HB.out, J1.out, J2.out]
    exact ⟨rfl, HBB.out.trans (below_draws _ _ _)⟩
set_option maxRecDepth 100000 in
theorem rWeeks_any (x : DateZ) (f : Int) (w : World) (h : Fair x) (f0 : 0 ≤ f) (f1 : f ≤ 1) : Calls Tryd.prog 50 #[dateV x, .int .i64 f] w fun e w' => e = .returned (.int .i64 ((x.yd - (x.wk + 7 - f) % 7 + 6) / 7)) ∧ Below w.heap.size w w' := by
  obtain ⟨_, _, _, _, _, _, ⟨a3, a4⟩, ⟨a5, a6⟩⟩ := h
  unfold dateV
  obtain ⟨c, hc⟩ : ∃ c, (x.wk - x.yd - f) % 7 = c := ⟨_, rfl⟩
  have hcb : 0 ≤ c ∧ c < 7 := by omega
  have hend : (x.yd + c) / 7 = (x.yd - (x.wk + 7 - f) % 7 + 6) / 7 := by omega
  rw [← hend]
  clear hend
  go_enter Tryd.func50, Tryd.ntmps50
  go_wp2_with fail
  have z1 := heap_alloc_new w (.cells #[.int .i64 x.y, .int .i64 x.m, .int .i64 x.d, .int .i64 x.hh, .int .i64 x.mm, .int .i64 x.ss, .int .i64 x.wk, .int .i64 x.yd] 32)
  have hb := below_alloc1 w (.cells #[.int .i64 x.y, .int .i64 x.m, .int .i64 x.d, .int .i64 x.hh, .int .i64 x.mm, .int .i64 x.ss, .int .i64 x.wk, .int .i64 x.yd] 32)
  obtain ⟨W1, hW1⟩ : ∃ W1, w.alloc (.cells #[.int .i64 x.y, .int .i64 x.m, .int .i64 x.d, .int .i64 x.hh, .int .i64 x.mm, .int .i64 x.ss, .int .i64 x.wk, .int .i64 x.yd] 32) = W1 := ⟨_, rfl⟩
  rw [hW1] at z1 hb ⊢
  clear hW1
  obtain ⟨B, hB⟩ : ∃ B, w.heap.size = B := ⟨_, rfl⟩
  rw [hB] at z1 hb ⊢
  obtain ⟨c0, c1, c2, c3, c4, c5, c6, c7⟩ := date_facts z1
  have HB := Lib.hid hB
  have HBB := Lib.hid hb
  have HC := Lib.hid hc
  clear hB hb z1 c0 c1 c2 c3 c4 c5 hc
  go_loopw [5, 6] (fun nv kv wr => ∃ k : Int, kv = .int .i64 k ∧ nv = .int .i64 ((k - 1 + c) / 7) ∧ 1 ≤ k ∧ k ≤ x.yd + 1 ∧ wr = W1) (fun _ kv _ => (400 - RowKit.intOf kv).toNat)
  case atStart => exact ⟨1, rfl, by rw [show (1 - 1 + c) / 7 = 0 by omega], by omega, by omega, rfl⟩
  case round =>
    obtain ⟨k, rfl, rfl, k1, k2, rfl⟩ := hrel
    by_cases hlt : k ≤ x.yd
    · obtain ⟨r, hr⟩ : ∃ r, (x.yd - k) % 7 = r := ⟨_, rfl⟩
      have hrb : 0 ≤ r ∧ r < 7 := by omega
      have hkey : (x.wk - r + 7) % 7 = f ↔ (k + 1 - 1 + c) / 7 = (k - 1 + c) / 7 + 1 := by have := HC.out; omega
      have hkey2 : ¬ (x.wk - r + 7) % 7 = f → (k + 1 - 1 + c) / 7 = (k - 1 + c) / 7 := by have := HC.out; omega
      obtain ⟨q, hq⟩ : ∃ q, (k - 1 + c) / 7 = q := ⟨_, rfl⟩
      have hqb : 0 ≤ q ∧ q ≤ 400 := by omega
      rw [hq] at hkey hkey2 ⊢
      have HK := Lib.hid hkey
      have HK2 := Lib.hid hkey2
      clear hkey hkey2 hq
      by_cases he : (x.wk - r + 7) % 7 = f
      · have HE := Lib.hid (HK.out.1 he)
        clear HK HK2
        go_wp2_with simp only [hr]
        go_roundw
        case rel => exact ⟨k + 1, rfl, by rw [HE.out], by omega, by omega, trivial⟩
        case measure => simp [RowKit.intOf]; omega
      · have HE := Lib.hid (HK2.out he)
        clear HK HK2
        go_wp2_with simp only [hr]
        go_roundw
        case rel => exact ⟨k + 1, rfl, by rw [HE.out], by omega, by omega, trivial⟩
        case measure => simp [RowKit.intOf]; omega
    · have hk : k = x.yd + 1 := by omega
      subst hk
      have hq : (x.yd + 1 - 1 + c) / 7 = (x.yd + c) / 7 := by rw [show x.yd + 1 - 1 + c = x.yd + c by omega]
      rw [hq]
      go_wp2_with fail
      go_ret
      rw [HB.out]
      exact ⟨rfl, HBB.out⟩
end Go.Proofs.YtelhbkfhalpniaaDoor

namespace Go.Proofs.YtelhbkfhalpniaaDoor
open Go.RowKit Go.Lib Go.Joins

set_option maxRecDepth 100000 in
theorem cal_text_no (S : ByteArray) (t : Int) (w : World) (h : ¬ (-62135596800 ≤ t ∧ t ≤ 253402300799)) : Calls Tryd.prog 6 #[.string S, .int .i64 t] w fun e w' => e = .returned (.tuple #[.string ⟨#[]⟩, .int .i64 1]) ∧ Below w.heap.size w w' := by
  have CO := of_no t w h
  simp only [dateV, noDate] at CO
  have CO := Lib.hid CO
  clear h
  go_enter Tryd.func6, Tryd.ntmps6
  go_wp2_with fail
  refine CO.out.mono ?_
  rintro e W3 ⟨rfl, h3⟩
  have HB3 := Lib.hid h3
  clear h3
  go_wp2_with fail
  go_ret2
  exact ⟨rfl, HB3.out.alloc HB3.out.size _⟩
set_option maxRecDepth 100000 in
theorem cal_text_long (S : ByteArray) (x : DateZ) (t : Int) (w : World) (hM : CalMem w) (hx : DateIs t x) (lo : -62135596800 ≤ t) (hi : t ≤ 253402300799) (hS : 2048 < S.size) (hS2 : S.size < 9223372036854775808) : Calls Tryd.prog 6 #[.string S, .int .i64 t] w fun e w' => e = .returned (.tuple #[.string ⟨#[]⟩, .int .i64 3]) ∧ Below w.heap.size w w' := by
  have CO := of_yes t x w hx lo hi hM.ah
  unfold dateV at CO
  have CO := Lib.hid CO
  have g2 : (2048 : Int) < (S.size : Int) := by omega
  clear hx hM
  go_enter Tryd.func6, Tryd.ntmps6
  go_wp2_with fail
  refine CO.out.mono ?_
  rintro e W3 ⟨rfl, h3⟩
  have HB3 := Lib.hid h3
  clear h3
  go_wp2_with fail
  go_ret2
  exact ⟨rfl, HB3.out.alloc HB3.out.size _⟩
theorem txL_half (P : UInt8 → List UInt8) (hP : ∀ d, 1 ≤ (P d).length) : ∀ l : List UInt8, l.length ≤ 2 * (txL P l).length
  | [] => Nat.zero_le _
  | [c] => by rw [txL]; simp
  | c :: d :: r => by
    by_cases h : c = 37
    · subst h
      rw [txL_part, List.length_append]
      have := txL_half P hP r
      have := hP d
      simp only [List.length_cons]
      omega
    · rw [txL_byte P c (d :: r) (.inl h)]
      have := txL_half P hP (d :: r)
      simp only [List.length_cons] at this ⊢
      omega
theorem padL_pos (n : Int) (k : Nat) (f : UInt8) : 1 ≤ (padL n k f).length := by
  unfold padL
  rw [List.length_append]
  have : 1 ≤ (Lib.itoa n).length := by
    have key : ∀ u : Nat, 1 ≤ (Lib.decDigits u).length := fun u => by
      rw [Lib.decDigits]
      split
      · exact Nat.le_refl _
      · rw [List.length_append]
        exact Nat.le_add_left _ _
    unfold Lib.itoa
    split
    · exact Nat.le_add_left _ _
    · exact key _
  omega
theorem lowZ_pos (x th : DateZ) (t : Int) (d : UInt8) : 1 ≤ (lowZ x th t d).length := by
  unfold lowZ
  split
  · exact padL_pos _ _ _
  · exact Nat.le_add_left 1 _
theorem calIte_pos {c : Prop} [Decidable c] {a b : List UInt8} (ha : 1 ≤ a.length) (hb : 1 ≤ b.length) : 1 ≤ (if c then a else b).length := by
  split
  · exact ha
  · exact hb
theorem partZ_pos (x th : DateZ) (t : Int) (d : UInt8) : 1 ≤ (partZ x th t d).length := by
  have hw : ∀ i, 3 ≤ (wdN i).length := fun i => by
    unfold wdN
    split <;> exact Nat.le_add_left 3 _
  have hm : ∀ i, 3 ≤ (moN i).length := fun i => by
    unfold moN
    split <;> exact Nat.le_add_left 3 _
  have hl := lowZ_pos x th t
  unfold partZ
  repeat' (with_reducible refine calIte_pos ?_ ?_)
  all_goals first
    | exact hl _
    | exact padL_pos _ _ _
    | exact Nat.le_trans (by decide) (hw _)
    | exact Nat.le_trans (by decide) (hm _)
    | (rw [List.length_take]; have := hw x.wk.toNat; omega)
    | (rw [List.length_take]; have := hm (x.m - 1).toNat; omega)
    | exact Nat.le_add_left 1 _
    | (have := txL_half (lowZ x th t) hl [37, 109, 47, 37, 100, 47, 37, 121]; simp only [List.length_cons, List.length_nil] at this; omega)
    | (have := txL_half (lowZ x th t) hl [37, 89, 45, 37, 109, 45, 37, 100]; simp only [List.length_cons, List.length_nil] at this; omega)
    | (have := txL_half (lowZ x th t) hl [37, 72, 58, 37, 77]; simp only [List.length_cons, List.length_nil] at this; omega)
    | (have := txL_half (lowZ x th t) hl [37, 72, 58, 37, 77, 58, 37, 83]; simp only [List.length_cons, List.length_nil] at this; omega)
/-- Text at any format, at a time in range. -/
theorem cal_text_yes (S : ByteArray) (x th : DateZ) (t : Int) (h : Mom x th t) (w : World) (hM : CalMem w) (hS : S.size < 9223372036854775808) : Calls Tryd.prog 6 #[.string S, .int .i64 t] w fun e w' => e = .returned (.tuple #[.string ⟨(textR (txL (partZ x th t) S.data.toList)).1.toArray⟩, .int .i64 (textR (txL (partZ x th t) S.data.toList)).2]) ∧ Below w.heap.size w w' := by
  rcases Nat.lt_or_ge 2048 S.size with g | g
  · have e := txL_half (partZ x th t) (partZ_pos x th t) S.data.toList
    have hn : S.data.toList.length = S.size := rfl
    rw [textR, if_neg (by omega)]
    exact cal_text_long S x t w hM h.d h.lo h.hi g hS
  · exact textT_all S x th t h w hM g
set_option maxRecDepth 100000 in
theorem rDays_any (w : World) : Calls Tryd.prog 30 #[] w fun e w' => (e = .returned (.slice (some ⟨w.heap.size, 0, none⟩) 7 7) ∧ ∀ j, j < 7 → w'.cell? ⟨w.heap.size, j, none⟩ = some (.string ⟨(wdN j).toArray⟩)) ∧ Below w.heap.size w w' := by
  go_enter Tryd.func30, Tryd.ntmps30
  go_wp2_with fail
  go_ret
  refine ⟨⟨rfl, fun j hj => ?_⟩, below_alloc1 w _⟩
  have e : j = 0 ∨ j = 1 ∨ j = 2 ∨ j = 3 ∨ j = 4 ∨ j = 5 ∨ j = 6 := by omega
  rcases e with rfl | rfl | rfl | rfl | rfl | rfl | rfl <;> exact cell_of_block (heap_alloc_new w _) _
set_option maxRecDepth 100000 in
theorem rMonths_any (w : World) : Calls Tryd.prog 31 #[] w fun e w' => (e = .returned (.slice (some ⟨w.heap.size, 0, none⟩) 12 12) ∧ ∀ j, j < 12 → w'.cell? ⟨w.heap.size, j, none⟩ = some (.string ⟨(moN j).toArray⟩)) ∧ Below w.heap.size w w' := by
  go_enter Tryd.func31, Tryd.ntmps31
  go_wp2_with fail
  go_ret
  refine ⟨⟨rfl, fun j hj => ?_⟩, below_alloc1 w _⟩
  have e : j = 0 ∨ j = 1 ∨ j = 2 ∨ j = 3 ∨ j = 4 ∨ j = 5 ∨ j = 6 ∨ j = 7 ∨ j = 8 ∨ j = 9 ∨ j = 10 ∨ j = 11 := by omega
  rcases e with rfl | rfl | rfl | rfl | rfl | rfl | rfl | rfl | rfl | rfl | rfl | rfl <;> exact cell_of_block (heap_alloc_new w _) _
end Go.Proofs.YtelhbkfhalpniaaDoor

namespace Go.Proofs.YtelhbkfhalpniaaDoor
open Go.RowKit Go.Lib Go.Joins

theorem rnum_1 (n : Int) (W : World) (h0 : -4611686018427387904 ≤ n) (h1 : n ≤ 4611686018427387904) : Calls Tryd.prog 32 #[.int .i64 n, .int .i64 1, .int .u8 48] W fun e w' => e = .returned (.string ⟨(padL n 1 48).toArray⟩) ∧ Below W.heap.size W w' :=
  rNumber_any n 1 48 W h0 h1 (by decide) (.inr (by decide))
theorem rnum_2 (n : Int) (W : World) (h0 : 0 ≤ n) (h1 : n ≤ 4611686018427387904) : Calls Tryd.prog 32 #[.int .i64 n, .int .i64 2, .int .u8 48] W fun e w' => e = .returned (.string ⟨(padL n 2 48).toArray⟩) ∧ Below W.heap.size W w' :=
  rNumber_any n 2 48 W (by omega) h1 (by decide) (.inl h0)
theorem rnum_3 (n : Int) (W : World) (h0 : 0 ≤ n) (h1 : n ≤ 4611686018427387904) : Calls Tryd.prog 32 #[.int .i64 n, .int .i64 3, .int .u8 48] W fun e w' => e = .returned (.string ⟨(padL n 3 48).toArray⟩) ∧ Below W.heap.size W w' :=
  rNumber_any n 3 48 W (by omega) h1 (by decide) (.inl h0)
theorem rnum_e (n : Int) (W : World) (h0 : 0 ≤ n) (h1 : n ≤ 4611686018427387904) : Calls Tryd.prog 32 #[.int .i64 n, .int .i64 2, .int .u8 32] W fun e w' => e = .returned (.string ⟨(padL n 2 32).toArray⟩) ∧ Below W.heap.size W w' :=
  rNumber_any n 2 32 W (by omega) h1 (by decide) (.inl h0)
/-- What rest writes. -/
def RestIs (c : Int) (x : DateZ) (t v : Int) (w : World) (L : List UInt8) : Prop := Calls Tryd.prog 33 #[.int .u8 c, dateV x, .int .i64 t, .int .i64 v] w fun e w' => e = .returned (.tuple #[.string ⟨L.toArray⟩, .bool true]) ∧ Below w.heap.size w w'
set_option maxRecDepth 100000 in
theorem rrest_109 (x : DateZ) (t v : Int) (w : World) (h : Fair x) (_t0 : -62135596800 ≤ t) (_t1 : t ≤ 253402300799) (_v0 : 0 ≤ v) (_v1 : v ≤ 99) : RestIs 109 x t v w (padL (x.m) 2 48) := by
  obtain ⟨⟨a1, a2⟩, ⟨a3, a4⟩, _, ⟨b1, b2⟩, ⟨b3, b4⟩, ⟨b5, b6⟩, ⟨b7, b8⟩, ⟨b9, b0⟩⟩ := h
  have CN := Lib.hid (fun (W : World) => rnum_2 (x.m) W (by omega) (by omega))
  unfold RestIs dateV
  go_enter Tryd.func33, Tryd.ntmps33
  go_wp2_with fail
  refine (CN.out _).mono ?_
  rintro e W1 ⟨rfl, h1⟩
  have HB := Lib.hid (first_bel (below_alloc1 w _) h1)
  clear h1
  go_wp2_with fail
  go_ret2
  exact ⟨rfl, HB.out⟩
set_option maxRecDepth 100000 in
theorem rrest_77 (x : DateZ) (t v : Int) (w : World) (h : Fair x) (_t0 : -62135596800 ≤ t) (_t1 : t ≤ 253402300799) (_v0 : 0 ≤ v) (_v1 : v ≤ 99) : RestIs 77 x t v w (padL (x.mm) 2 48) := by
  obtain ⟨⟨a1, a2⟩, ⟨a3, a4⟩, _, ⟨b1, b2⟩, ⟨b3, b4⟩, ⟨b5, b6⟩, ⟨b7, b8⟩, ⟨b9, b0⟩⟩ := h
  have CN := Lib.hid (fun (W : World) => rnum_2 (x.mm) W (by omega) (by omega))
  unfold RestIs dateV
  go_enter Tryd.func33, Tryd.ntmps33
  go_wp2_with fail
  refine (CN.out _).mono ?_
  rintro e W1 ⟨rfl, h1⟩
  have HB := Lib.hid (first_bel (below_alloc1 w _) h1)
  clear h1
  go_wp2_with fail
  go_ret2
  exact ⟨rfl, HB.out⟩
set_option maxRecDepth 100000 in
theorem rrest_115 (x : DateZ) (t v : Int) (w : World) (h : Fair x) (_t0 : -62135596800 ≤ t) (_t1 : t ≤ 253402300799) (_v0 : 0 ≤ v) (_v1 : v ≤ 99) : RestIs 115 x t v w (padL (t) 1 48) := by
  obtain ⟨⟨a1, a2⟩, ⟨a3, a4⟩, _, ⟨b1, b2⟩, ⟨b3, b4⟩, ⟨b5, b6⟩, ⟨b7, b8⟩, ⟨b9, b0⟩⟩ := h
  have CN := Lib.hid (fun (W : World) => rnum_1 (t) W (by omega) (by omega))
  unfold RestIs dateV
  go_enter Tryd.func33, Tryd.ntmps33
  go_wp2_with fail
  refine (CN.out _).mono ?_
  rintro e W1 ⟨rfl, h1⟩
  have HB := Lib.hid (first_bel (below_alloc1 w _) h1)
  clear h1
  go_wp2_with fail
  go_ret2
  exact ⟨rfl, HB.out⟩
set_option maxRecDepth 100000 in
theorem rrest_83 (x : DateZ) (t v : Int) (w : World) (h : Fair x) (_t0 : -62135596800 ≤ t) (_t1 : t ≤ 253402300799) (_v0 : 0 ≤ v) (_v1 : v ≤ 99) : RestIs 83 x t v w (padL (x.ss) 2 48) := by
  obtain ⟨⟨a1, a2⟩, ⟨a3, a4⟩, _, ⟨b1, b2⟩, ⟨b3, b4⟩, ⟨b5, b6⟩, ⟨b7, b8⟩, ⟨b9, b0⟩⟩ := h
  have CN := Lib.hid (fun (W : World) => rnum_2 (x.ss) W (by omega) (by omega))
  unfold RestIs dateV
  go_enter Tryd.func33, Tryd.ntmps33
  go_wp2_with fail
  refine (CN.out _).mono ?_
  rintro e W1 ⟨rfl, h1⟩
  have HB := Lib.hid (first_bel (below_alloc1 w _) h1)
  clear h1
  go_wp2_with fail
  go_ret2
  exact ⟨rfl, HB.out⟩
set_option maxRecDepth 100000 in
theorem rrest_86 (x : DateZ) (t v : Int) (w : World) (h : Fair x) (_t0 : -62135596800 ≤ t) (_t1 : t ≤ 253402300799) (_v0 : 0 ≤ v) (_v1 : v ≤ 99) : RestIs 86 x t v w (padL (v) 2 48) := by
  obtain ⟨⟨a1, a2⟩, ⟨a3, a4⟩, _, ⟨b1, b2⟩, ⟨b3, b4⟩, ⟨b5, b6⟩, ⟨b7, b8⟩, ⟨b9, b0⟩⟩ := h
  have CN := Lib.hid (fun (W : World) => rnum_2 (v) W (by omega) (by omega))
  unfold RestIs dateV
  go_enter Tryd.func33, Tryd.ntmps33
  go_wp2_with fail
  refine (CN.out _).mono ?_
  rintro e W1 ⟨rfl, h1⟩
  have HB := Lib.hid (first_bel (below_alloc1 w _) h1)
  clear h1
  go_wp2_with fail
  go_ret2
  exact ⟨rfl, HB.out⟩
set_option maxRecDepth 100000 in
theorem rrest_119 (x : DateZ) (t v : Int) (w : World) (h : Fair x) (_t0 : -62135596800 ≤ t) (_t1 : t ≤ 253402300799) (_v0 : 0 ≤ v) (_v1 : v ≤ 99) : RestIs 119 x t v w (padL (x.wk) 1 48) := by
  obtain ⟨⟨a1, a2⟩, ⟨a3, a4⟩, _, ⟨b1, b2⟩, ⟨b3, b4⟩, ⟨b5, b6⟩, ⟨b7, b8⟩, ⟨b9, b0⟩⟩ := h
  have CN := Lib.hid (fun (W : World) => rnum_1 (x.wk) W (by omega) (by omega))
  unfold RestIs dateV
  go_enter Tryd.func33, Tryd.ntmps33
  go_wp2_with fail
  refine (CN.out _).mono ?_
  rintro e W1 ⟨rfl, h1⟩
  have HB := Lib.hid (first_bel (below_alloc1 w _) h1)
  clear h1
  go_wp2_with fail
  go_ret2
  exact ⟨rfl, HB.out⟩
set_option maxRecDepth 100000 in
theorem rrest_121 (x : DateZ) (t v : Int) (w : World) (h : Fair x) (_t0 : -62135596800 ≤ t) (_t1 : t ≤ 253402300799) (_v0 : 0 ≤ v) (_v1 : v ≤ 99) : RestIs 121 x t v w (padL (x.y % 100) 2 48) := by
  obtain ⟨⟨a1, a2⟩, ⟨a3, a4⟩, _, ⟨b1, b2⟩, ⟨b3, b4⟩, ⟨b5, b6⟩, ⟨b7, b8⟩, ⟨b9, b0⟩⟩ := h
  have CN := Lib.hid (fun (W : World) => rnum_2 (x.y % 100) W (by omega) (by omega))
  unfold RestIs dateV
  go_enter Tryd.func33, Tryd.ntmps33
  go_wp2_with fail
  refine (CN.out _).mono ?_
  rintro e W1 ⟨rfl, h1⟩
  have HB := Lib.hid (first_bel (below_alloc1 w _) h1)
  clear h1
  go_wp2_with fail
  go_ret2
  exact ⟨rfl, HB.out⟩
set_option maxRecDepth 100000 in
theorem rrest_89 (x : DateZ) (t v : Int) (w : World) (h : Fair x) (_t0 : -62135596800 ≤ t) (_t1 : t ≤ 253402300799) (_v0 : 0 ≤ v) (_v1 : v ≤ 99) : RestIs 89 x t v w (padL (x.y) 1 48) := by
  obtain ⟨⟨a1, a2⟩, ⟨a3, a4⟩, _, ⟨b1, b2⟩, ⟨b3, b4⟩, ⟨b5, b6⟩, ⟨b7, b8⟩, ⟨b9, b0⟩⟩ := h
  have CN := Lib.hid (fun (W : World) => rnum_1 (x.y) W (by omega) (by omega))
  unfold RestIs dateV
  go_enter Tryd.func33, Tryd.ntmps33
  go_wp2_with fail
  refine (CN.out _).mono ?_
  rintro e W1 ⟨rfl, h1⟩
  have HB := Lib.hid (first_bel (below_alloc1 w _) h1)
  clear h1
  go_wp2_with fail
  go_ret2
  exact ⟨rfl, HB.out⟩
set_option maxRecDepth 100000 in
theorem rrest_110 (x : DateZ) (t v : Int) (w : World) : RestIs 110 x t v w [10] := by
  unfold RestIs dateV
  go_enter Tryd.func33, Tryd.ntmps33
  go_wp2_with fail
  go_ret2
  exact ⟨rfl, below_alloc1 w _⟩
set_option maxRecDepth 100000 in
theorem rrest_116 (x : DateZ) (t v : Int) (w : World) : RestIs 116 x t v w [9] := by
  unfold RestIs dateV
  go_enter Tryd.func33, Tryd.ntmps33
  go_wp2_with fail
  go_ret2
  exact ⟨rfl, below_alloc1 w _⟩
set_option maxRecDepth 100000 in
theorem rrest_122 (x : DateZ) (t v : Int) (w : World) : RestIs 122 x t v w [43, 48, 48, 48, 48] := by
  unfold RestIs dateV
  go_enter Tryd.func33, Tryd.ntmps33
  go_wp2_with fail
  go_ret2
  exact ⟨rfl, below_alloc1 w _⟩
set_option maxRecDepth 100000 in
theorem rrest_90 (x : DateZ) (t v : Int) (w : World) : RestIs 90 x t v w [85, 84, 67] := by
  unfold RestIs dateV
  go_enter Tryd.func33, Tryd.ntmps33
  go_wp2_with fail
  go_ret2
  exact ⟨rfl, below_alloc1 w _⟩
set_option maxRecDepth 100000 in
theorem rrest_37 (x : DateZ) (t v : Int) (w : World) : RestIs 37 x t v w [37] := by
  unfold RestIs dateV
  go_enter Tryd.func33, Tryd.ntmps33
  go_wp2_with fail
  go_ret2
  exact ⟨rfl, below_alloc1 w _⟩
set_option maxRecDepth 100000 in
theorem rrest_112a (x : DateZ) (t v : Int) (w : World) (h : x.hh < 12) : RestIs 112 x t v w [65, 77] := by
  unfold RestIs dateV
  go_enter Tryd.func33, Tryd.ntmps33
  go_wp2_with fail
  go_ret2
  exact ⟨rfl, below_alloc1 w _⟩
set_option maxRecDepth 100000 in
theorem rrest_112b (x : DateZ) (t v : Int) (w : World) (h : ¬ x.hh < 12) : RestIs 112 x t v w [80, 77] := by
  unfold RestIs dateV
  go_enter Tryd.func33, Tryd.ntmps33
  go_wp2_with fail
  go_ret2
  exact ⟨rfl, below_alloc1 w _⟩
set_option maxRecDepth 100000 in
theorem rrest_117 (x : DateZ) (t v : Int) (w : World) (h : Fair x) : RestIs 117 x t v w (padL ((x.wk + 6) % 7 + 1) 1 48) := by
  obtain ⟨⟨a1, a2⟩, ⟨a3, a4⟩, _, ⟨b1, b2⟩, ⟨b3, b4⟩, ⟨b5, b6⟩, ⟨b7, b8⟩, ⟨b9, b0⟩⟩ := h
  by_cases h0 : x.wk = 0
  · rw [h0]
    have e : padL ((0 + 6) % 7 + 1) 1 48 = [55] := by kernel_rfl
    rw [e]
    unfold RestIs dateV
    go_enter Tryd.func33, Tryd.ntmps33
    go_wp2_with fail
    go_ret2
    exact ⟨rfl, below_alloc1 w _⟩
  · have e : (x.wk + 6) % 7 + 1 = x.wk := by omega
    rw [e]
    have CN := Lib.hid (fun (W : World) => rnum_1 x.wk W (by omega) (by omega))
    clear e
    unfold RestIs dateV
    go_enter Tryd.func33, Tryd.ntmps33
    go_wp2_with fail
    refine (CN.out _).mono ?_
    rintro e W1 ⟨rfl, h1⟩
    have HB := Lib.hid (first_bel (below_alloc1 w _) h1)
    clear h1
    go_wp2_with fail
    go_ret2
    exact ⟨rfl, HB.out⟩
set_option maxRecDepth 100000 in
theorem rrest_85 (x : DateZ) (t v : Int) (w : World) (h : Fair x) : RestIs 85 x t v w (padL ((x.yd - x.wk + 6) / 7) 2 48) := by
  have CW := fun (W : World) => rWeeks_any x 0 W h (by decide) (by decide)
  have e0 : (x.yd - (x.wk + 7 - 0) % 7 + 6) / 7 = (x.yd - x.wk + 6) / 7 := by
    obtain ⟨b7, b8⟩ := h.wk
    omega
  simp only [e0] at CW
  obtain ⟨z, hz⟩ : ∃ z, (x.yd - x.wk + 6) / 7 = z := ⟨_, rfl⟩
  have hzb : 0 ≤ z ∧ z ≤ 100 := by
    obtain ⟨b7, b8⟩ := h.wk
    obtain ⟨b9, b0⟩ := h.yd
    omega
  rw [hz] at CW ⊢
  unfold dateV at CW
  have CW := Lib.hid CW
  have CN := Lib.hid (fun (W : World) => rnum_2 z W (by omega) (by omega))
  clear e0 hz h
  unfold RestIs dateV
  go_enter Tryd.func33, Tryd.ntmps33
  go_wp2_with fail
  refine (CW.out _).mono ?_
  rintro e W0 ⟨rfl, h0⟩
  have HB0 := Lib.hid (first_bel (below_alloc1 w _) h0)
  clear h0
  go_wp2_with fail
  refine (CN.out _).mono ?_
  rintro e W1 ⟨rfl, h1⟩
  have HB := Lib.hid (first_bel HB0.out h1)
  clear h1
  go_wp2_with fail
  go_ret2
  exact ⟨rfl, HB.out⟩
set_option maxRecDepth 100000 in
theorem rrest_87 (x : DateZ) (t v : Int) (w : World) (h : Fair x) : RestIs 87 x t v w (padL ((x.yd - (x.wk + 6) % 7 + 6) / 7) 2 48) := by
  have CW := fun (W : World) => rWeeks_any x 1 W h (by decide) (by decide)
  have e0 : (x.yd - (x.wk + 7 - 1) % 7 + 6) / 7 = (x.yd - (x.wk + 6) % 7 + 6) / 7 := by
    obtain ⟨b7, b8⟩ := h.wk
    omega
  simp only [e0] at CW
  obtain ⟨z, hz⟩ : ∃ z, (x.yd - (x.wk + 6) % 7 + 6) / 7 = z := ⟨_, rfl⟩
  have hzb : 0 ≤ z ∧ z ≤ 100 := by
    obtain ⟨b7, b8⟩ := h.wk
    obtain ⟨b9, b0⟩ := h.yd
    omega
  rw [hz] at CW ⊢
  unfold dateV at CW
  have CW := Lib.hid CW
  have CN := Lib.hid (fun (W : World) => rnum_2 z W (by omega) (by omega))
  clear e0 hz h
  unfold RestIs dateV
  go_enter Tryd.func33, Tryd.ntmps33
  go_wp2_with fail
  refine (CW.out _).mono ?_
  rintro e W0 ⟨rfl, h0⟩
  have HB0 := Lib.hid (first_bel (below_alloc1 w _) h0)
  clear h0
  go_wp2_with fail
  refine (CN.out _).mono ?_
  rintro e W1 ⟨rfl, h1⟩
  have HB := Lib.hid (first_bel HB0.out h1)
  clear h1
  go_wp2_with fail
  go_ret2
  exact ⟨rfl, HB.out⟩
end Go.Proofs.YtelhbkfhalpniaaDoor
