/- Several texts in one (Contracts of layer 2: guess; Plain: the parts of the long division; Contracts of layer 2: addTo; Contracts of layer 2: divLong; Contracts of layer 2: Div; Contracts of layer 2: Add, Sub; Contracts of layer 2: Bits; Contracts of layer 2: Shl, Mul; Contracts of layer 2: Mul; Contracts of layer 3: fits, word; Small facts on answers of layer 2). -/
import Derived.Outline
import Derived.Lib.BitFns
import Derived.Laws.CopyOwn
import Derived.Test.YtddfigbpckhfbaaGreatDoorQpt1
namespace Go.Proofs.YtddfigbpckhfbaaGreatDoor
open Go.RowKit Go.Lib

/-- What guess answers: the quotient, or one more. -/
def Guessed (q : Nat) (e : Ending) : Prop := ∃ t : Nat, e = .returned (.int .u32 t) ∧ q ≤ t ∧ t ≤ q + 1 ∧ t < 4294967296

/-- A product of two limbs by a name. -/
theorem prod_name {x y : Nat} (hx : x < 4294967296) (hy : y < 4294967296) : ∃ p : Nat, x * y = p ∧ (x : Int) * (y : Int) = (p : Int) ∧ (p : Int) ≤ 18446744073709551615 := by
  have h : x * y ≤ 4294967295 * 4294967295 := Nat.mul_le_mul (by omega) (by omega)
  exact ⟨x * y, rfl, (Int.natCast_mul _ _).symm, by omega⟩

set_option maxRecDepth 100000 in
set_option maxHeartbeats 2000000 in
theorem guess_any (gp op cp gb ob cb n P Dl v1 v0 Nl u2 u1 u0 : Nat) (w : World) (hn : 2 ≤ n) (hn2 : n ≤ 100000) (hG : GuessOk B32 P Dl v1 v0 Nl u2 u1 u0) (hu1 : u1 < 4294967296) (hu2 : u2 < 4294967296)
    (c1 : w.cell? ⟨gb, ob + (n - 1), none⟩ = some (.int .u32 v1)) (c2 : w.cell? ⟨gb, ob + (n - 2), none⟩ = some (.int .u32 v0))
    (c3 : w.cell? ⟨gp, op + n, none⟩ = some (.int .u32 u2)) (c4 : w.cell? ⟨gp, op + (n - 1), none⟩ = some (.int .u32 u1)) (c5 : w.cell? ⟨gp, op + (n - 2), none⟩ = some (.int .u32 u0)) :
    Calls Tryz.prog 262 #[.slice (some ⟨gp, op, none⟩) (n + 1) cp, .slice (some ⟨gb, ob, none⟩) n cb] w fun e w' => Guessed ((Nl + P * (u0 + B32 * (u1 + B32 * u2))) / (Dl + P * (v0 + B32 * v1))) e ∧ ∃ n, w' = w.drewN n := by
  have hv0 : v0 < 4294967296 := hG.hv0
  have hv1 : v1 < 4294967296 := hG.hv1
  have hu0 : u0 < 4294967296 := hG.hu0
  have htop : 4294967296 ≤ 2 * v1 := hG.htop
  have st := guess_start hG
  obtain ⟨q, hq⟩ : ∃ q, (Nl + P * (u0 + B32 * (u1 + B32 * u2))) / (Dl + P * (v0 + B32 * v1)) = q := ⟨_, rfl⟩
  rw [hq] at st ⊢
  obtain ⟨W, hW⟩ : ∃ W, u1 + B32 * u2 = W := ⟨_, rfl⟩
  rw [hW] at st
  have hWi : (u2 : Int) * 4294967296 + (u1 : Int) = (W : Int) := by rw [← hW]; show (u2 : Int) * 4294967296 + (u1 : Int) = ((u1 + 4294967296 * u2 : Nat) : Int); omega
  have hW2 : (W : Int) ≤ 18446744073709551615 := by omega
  have HQ := Lib.hid hq; clear hq
  have HW := Lib.hid hW; clear hW
  have hdm := Nat.div_add_mod W v1
  obtain ⟨t0, ht0⟩ : ∃ t0, W / v1 = t0 := ⟨_, rfl⟩
  obtain ⟨l0, hl0⟩ : ∃ l0, W % v1 = l0 := ⟨_, rfl⟩
  have hl0b : l0 < 4294967296 := by rw [← hl0]; have := Nat.mod_lt W (show 0 < v1 by omega); omega
  rw [ht0] at st hdm
  rw [hl0] at hdm
  rw [Nat.mul_comm] at hdm
  have ht0i : (W : Int) / (v1 : Int) = (t0 : Int) := by rw [← ht0]; exact (Int.natCast_ediv _ _).symm
  have hl0i : (W : Int) % (v1 : Int) = (l0 : Int) := by rw [← hl0]; exact (Int.natCast_emod _ _).symm
  have hor : bits .or .u64 ((u2 : Int) * 4294967296) (u1 : Int) = (W : Int) := by rw [or_add hu2 hu1, hWi]
  have s1 : IntKind.u64.wrap ((u2 : Int) * 4294967296) = (u2 : Int) * 4294967296 := IntWalk.u64_in _ (by omega)
  have s2 : IntKind.i64.wrap ((n : Int) - 1) = (n : Int) - 1 := IntWalk.i64_in _ (by omega)
  have s3 : IntKind.i64.wrap ((n : Int) - 2) = (n : Int) - 2 := IntWalk.i64_in _ (by omega)
  have s4 : ((n : Int) - 1).toNat = n - 1 := by omega
  have s5 : ((n : Int) - 2).toNat = n - 2 := by omega
  have s6 : (1 : Int) ≤ (n : Int) := by omega
  have s7 : (2 : Int) ≤ (n : Int) := by omega
  have s8 : (n : Int) - 1 < (n : Int) := by omega
  have s9 : (n : Int) - 2 < (n : Int) := by omega
  have s10 : (n : Int) < (n : Int) + 1 := by omega
  have s11 : (n : Int) - 1 < (n : Int) + 1 := by omega
  have hw0 : t0 * v1 + l0 = u1 + B32 * u2 := by rw [HW.out]; exact hdm
  have htb : t0 < 4294967298 := guess_max hG hw0
  have s12 : IntKind.u64.wrap (t0 : Int) = (t0 : Int) := IntWalk.u64_in _ (by omega)
  have HDM := Lib.hid hw0
  have HG := Lib.hid hG
  have HLI := Lib.hid hl0i
  clear hw0 hG hl0i
  have HWI := Lib.hid hWi
  have HT0 := Lib.hid ht0
  have HL0 := Lib.hid hl0
  clear hdm hWi ht0 hl0
  go_enter Tryz.func262, Tryz.ntmps262
  go_wp2
  go_quiet (fail)
  go_wp2
  go_quiet (fail)
  go_wp2
  go_quiet (fail)
  go_wp2
  clear s1 s2 s4 s6 s8 s10 s11 s12 hor ht0i c1 c2 c3 c4
  go_loopw [9, 10] (fun c d wr => ∃ t l k : Nat, c = .int .u64 t ∧ d = .int .u64 l ∧ t * v1 + l = u1 + B32 * u2 ∧ q ≤ t ∧ t < 4294967298 ∧ l < 4294967296 ∧ wr = w.drewN k) (fun c _ _ => (RowKit.intOf c).toNat)
  case atStart => exact ⟨t0, l0, _, rfl, vint HLI.out, HDM.out, st, htb, hl0b, by rw [World.drewN_drewN, World.drewN_drewN]⟩
  case round =>
    obtain ⟨t, l, k, rfl, rfl, hw1, hqt, htb2, hlb, rfl⟩ := hrel
    have HW1 := Lib.hid hw1
    have hor := or_add hlb hu0
    by_cases hc : 4294967296 ≤ t ∨ l * 4294967296 + u0 < t * v0
    · have hdn : q < t := by
        have h := guess_down HG.out (t := t) (left := l) hw1 hc
        rw [HQ.out] at h
        exact h
      obtain ⟨t1, ht1⟩ : ∃ t1, t = t1 + 1 := ⟨t - 1, by omega⟩
      have hw2 : t1 * v1 + (l + v1) = u1 + B32 * u2 := by
        rw [← hw1, ht1, Nat.add_mul]; omega
      have HW2 := Lib.hid hw2
      clear hw1
      have e0 : (t : Int) - 1 = (t1 : Int) := by omega
      have hbr := guess_break HG.out (t := t1) (left := l + v1) hw2
      have hend := guess_end HG.out (t := t1) (left := l + v1) hw2
      rw [HQ.out] at hend
      have HB := Lib.hid hbr
      have HE := Lib.hid hend
      have hq1 : q ≤ t1 := by omega
      have htb3 : t1 < 4294967298 := by omega
      have hm1 : (1 : Int) ≤ (t : Int) := by omega
      have hmt : t1 < t := by omega
      clear hw2 hbr hend hdn hqt
      rcases Nat.lt_or_ge t 4294967296 with hs | hs
      · obtain ⟨p, hp0, hp1, hp2⟩ := prod_name hs hv0
        have hci : (l : Int) * 4294967296 + (u0 : Int) < (p : Int) := by rw [hp0] at hc; omega
        have hsh : ((t : Int) / 4294967296 != 0) = false := by simp; omega
        have hs1 : t1 < 4294967296 := by omega
        clear hc ht1 hp0
        by_cases hl2 : 4294967296 ≤ l + v1
        · have hsl : (((l : Int) + (v1 : Int)) / 4294967296 != 0) = true := by simp; omega
          have HR := Lib.hid (show Guessed q (.returned (.int .u32 t1)) from ⟨t1, rfl, by omega, HE.out (by omega) (HB.out hl2).2, by omega⟩)
          go_wp2
          go_ret
          exact ⟨HR.out, k, rfl⟩
        · have hsl : (((l : Int) + (v1 : Int)) / 4294967296 != 0) = false := by simp; omega
          go_wp2
          go_roundw
          case rel => exact ⟨t1, l + v1, k, rfl, vint (by omega), HW2.out, by omega, by omega, by omega, rfl⟩
          case measure => simp [RowKit.intOf]; omega
      · have hsh : ((t : Int) / 4294967296 != 0) = true := by simp; omega
        clear hc ht1
        by_cases hl2 : 4294967296 ≤ l + v1
        · have hsl : (((l : Int) + (v1 : Int)) / 4294967296 != 0) = true := by simp; omega
          have ht4 : t1 < 4294967296 := (HB.out hl2).1
          have HR := Lib.hid (show Guessed q (.returned (.int .u32 t1)) from ⟨t1, rfl, by omega, HE.out ht4 (HB.out hl2).2, ht4⟩)
          go_wp2
          go_ret
          exact ⟨HR.out, k, rfl⟩
        · have hsl : (((l : Int) + (v1 : Int)) / 4294967296 != 0) = false := by simp; omega
          go_wp2
          go_roundw
          case rel => exact ⟨t1, l + v1, k, rfl, vint (by omega), HW2.out, by omega, by omega, by omega, rfl⟩
          case measure => simp [RowKit.intOf]; omega
    · have ht4 : t < 4294967296 := by omega
      obtain ⟨p, hp0, hp1, hp2⟩ := prod_name ht4 hv0
      have hci : (p : Int) ≤ (l : Int) * 4294967296 + (u0 : Int) := by rw [hp0] at hc; omega
      have hsh : ((t : Int) / 4294967296 != 0) = false := by simp; omega
      have hend := guess_end HG.out (t := t) (left := l) hw1 ht4 (show t * v0 ≤ l * 4294967296 + u0 by rw [hp0]; omega)
      rw [HQ.out] at hend
      have HR := Lib.hid (show Guessed q (.returned (.int .u32 t)) from ⟨t, rfl, hqt, hend, ht4⟩)
      clear hc hp0 hw1 hend
      go_wp2
      go_ret
      exact ⟨HR.out, k, rfl⟩
end Go.Proofs.YtddfigbpckhfbaaGreatDoor

namespace Go.Proofs.YtddfigbpckhfbaaGreatDoor

/-- The dividend, shifted up into one limb more. -/
theorem shu_more {B P : Nat} {xs cur : List Nat} {c : Nat} (h : ShuR B P xs cur xs.length c) (hl : cur.length = xs.length + 1) (hP : P ≤ B) : Lim B (cur.set xs.length c) ∧ (cur.set xs.length c).length = xs.length + 1 ∧ vl B (cur.set xs.length c) = vl B xs * P := by
  obtain ⟨h1, h2, h3⟩ := h
  refine ⟨lim_set h3 (by omega), by rw [List.length_set, hl], ?_⟩
  rw [vl_take_all (Nat.le_refl _)] at h1
  rw [← vl_take_all (B := B) (l := cur.set xs.length c) (k := xs.length + 1) (by rw [List.length_set]; omega), take_set_succ (by omega), vl_snoc, List.length_take, Nat.min_eq_left (by omega), h1]
/-- The divisor, shifted up into as many limbs: nothing is carried out of it, and its top limb is great. -/
theorem shu_same {B P y H : Nat} {ys cur : List Nat} {c : Nat} (h : ShuR B P ys cur ys.length c) (hl : cur.length = ys.length) (hy : Lim B ys) (h0 : 0 < ys.length) (hye : ys[ys.length - 1] = y) (h1 : H ≤ y * P) (h2 : (y + 1) * P ≤ B) :
    c = 0 ∧ vl B cur = vl B ys * P ∧ (∀ h : ys.length - 1 < cur.length, H ≤ cur[ys.length - 1]) ∧ vl B cur < B ^ ys.length := by
  obtain ⟨a1, a2, a3⟩ := h
  rw [vl_take_all (Nat.le_refl _), vl_take_all (by omega)] at a1
  have e1 : vl B ys = vl B (ys.take (ys.length - 1)) + B ^ (ys.length - 1) * y := by
    have := vl_take_succ B ys (ys.length - 1) (by omega)
    rw [show ys.length - 1 + 1 = ys.length by omega, vl_take_all (Nat.le_refl _), hye] at this
    exact this
  have e2 : vl B (ys.take (ys.length - 1)) < B ^ (ys.length - 1) := by
    have := vl_lt (lim_take hy (ys.length - 1))
    rwa [List.length_take, Nat.min_eq_left (by omega)] at this
  have e3 : B ^ ys.length = B ^ (ys.length - 1) * B := by rw [← Nat.pow_succ, show (ys.length - 1).succ = ys.length by omega]
  have e4 : vl B ys * P < B ^ ys.length := by
    have f1 : (vl B ys + 1) * P ≤ B ^ (ys.length - 1) * (y + 1) * P := Nat.mul_le_mul_right _ (by rw [Nat.mul_add]; omega)
    have f2 : B ^ (ys.length - 1) * ((y + 1) * P) ≤ B ^ (ys.length - 1) * B := Nat.mul_le_mul_left _ h2
    rw [e3]
    rw [Nat.mul_assoc] at f1
    have hP : 0 < P := by
      rcases Nat.eq_zero_or_pos P with hp | hp
      · subst hp; omega
      · exact hp
    rw [Nat.add_mul] at f1
    omega
  have hc : c = 0 := by
    rcases Nat.eq_zero_or_pos c with h | h
    · exact h
    · have : B ^ ys.length * 1 ≤ B ^ ys.length * c := Nat.mul_le_mul_left _ h
      omega
  subst hc
  rw [Nat.mul_zero, Nat.add_zero] at a1
  refine ⟨rfl, a1, fun hh => ?_, by rw [a1]; exact e4⟩
  have g1 := vl_take_succ B cur (ys.length - 1) hh
  rw [show ys.length - 1 + 1 = ys.length by omega, vl_take_all (by omega)] at g1
  have g2 := vl_lt (lim_take a3 (ys.length - 1))
  rw [List.length_take, Nat.min_eq_left (by omega)] at g2
  have g3 : B ^ (ys.length - 1) * H ≤ vl B cur := by
    rw [a1, e1, Nat.add_mul]
    have : B ^ (ys.length - 1) * H ≤ B ^ (ys.length - 1) * (y * P) := Nat.mul_le_mul_left _ h1
    rw [← Nat.mul_assoc] at this
    omega
  obtain ⟨z, hz⟩ : ∃ z, cur[ys.length - 1] = z := ⟨_, rfl⟩
  rw [hz] at g1 ⊢
  rcases Nat.lt_or_ge z H with h | h
  · have : B ^ (ys.length - 1) * (z + 1) ≤ B ^ (ys.length - 1) * H := Nat.mul_le_mul_left _ h
    rw [Nat.mul_add] at this
    omega
  · exact h
/-- The two top limbs. -/
theorem vl_two {B : Nat} {l : List Nat} {n : Nat} (hn : l.length = n) (h2 : 2 ≤ n) : vl B l = vl B (l.take (n - 2)) + B ^ (n - 2) * (l[n - 2]'(by omega) + B * l[n - 1]'(by omega)) := by
  have a := vl_take_succ B l (n - 2) (by omega)
  have b := vl_take_succ B l (n - 1) (by omega)
  rw [show n - 2 + 1 = n - 1 by omega] at a
  rw [show n - 1 + 1 = n by omega, vl_take_all (by omega)] at b
  rw [b, a, show B ^ (n - 1) = B ^ (n - 2) * B by rw [← Nat.pow_succ, show (n - 2).succ = n - 1 by omega], Nat.mul_add, Nat.mul_assoc]
  omega
/-- The three top limbs. -/
theorem vl_three {B : Nat} {l : List Nat} {n : Nat} (hn : l.length = n + 1) (h2 : 2 ≤ n) : vl B l = vl B (l.take (n - 2)) + B ^ (n - 2) * (l[n - 2]'(by omega) + B * (l[n - 1]'(by omega) + B * l[n]'(by omega))) := by
  have a := vl_take_succ B l (n - 2) (by omega)
  have b := vl_take_succ B l (n - 1) (by omega)
  have c := vl_take_succ B l n (by omega)
  rw [show n - 2 + 1 = n - 1 by omega] at a
  rw [show n - 1 + 1 = n by omega] at b
  rw [vl_take_all (by omega)] at c
  rw [c, b, a, show B ^ n = B ^ (n - 2) * B * B by rw [← Nat.pow_succ, ← Nat.pow_succ, show (n - 2).succ.succ = n by omega], show B ^ (n - 1) = B ^ (n - 2) * B by rw [← Nat.pow_succ, show (n - 2).succ = n - 1 by omega]]
  simp only [Nat.mul_add, Nat.mul_assoc]
  omega
theorem guess_of {B : Nat} {Ds part : List Nat} {n : Nat} (hD : Lim B Ds) (hp : Lim B part) (h2 : 2 ≤ n) (hn : Ds.length = n) (hpn : part.length = n + 1) (htop : B ≤ 2 * Ds[n - 1]'(by omega)) (hB : 2 ≤ B) (hlt : vl B part < B * vl B Ds) :
    GuessOk B (B ^ (n - 2)) (vl B (Ds.take (n - 2))) (Ds[n - 1]'(by omega)) (Ds[n - 2]'(by omega)) (vl B (part.take (n - 2))) (part[n]'(by omega)) (part[n - 1]'(by omega)) (part[n - 2]'(by omega)) := by
  refine ⟨Nat.pow_pos (by omega), ?_, ?_, lim_get hD _ _, lim_get hD _ _, lim_get hp _ _, htop, hB, ?_⟩
  · have := vl_lt (lim_take hD (n - 2))
    rwa [List.length_take, Nat.min_eq_left (by omega)] at this
  · have := vl_lt (lim_take hp (n - 2))
    rwa [List.length_take, Nat.min_eq_left (by omega)] at this
  · rw [← vl_two hn h2, ← vl_three hpn h2]
    exact hlt
/-- takeFrom, borrow or not, of the part. -/
theorem take_end {B : Nat} {t : Nat} {part Ds cur : List Nat} {m r : Nat} (h : TakeR B t part Ds cur part.length m r) (hlen : Ds.length < part.length) (ht : t ≤ B) : m = 0 ∧ vl B cur + t * vl B Ds = vl B part + B ^ part.length * r ∧ Lim B cur ∧ cur.length = part.length ∧ r ≤ 1 := by
  obtain ⟨h1, h2, h3, _, h5⟩ := h
  have hm := h5 hlen ht
  subst hm
  rw [vl_take_all (by rw [h1.len]; exact Nat.le_refl _), vl_take_all (Nat.le_refl _), vl_take_all (by omega), Nat.zero_add] at h2
  exact ⟨rfl, h2, h1.lim, h1.len, h3⟩
theorem add_end {B : Nat} {part Ds cur : List Nat} {c : Nat} (h : AddR B part Ds cur part.length c) (hlen : Ds.length ≤ part.length) : vl B cur + B ^ part.length * c = vl B part + vl B Ds ∧ Lim B cur ∧ cur.length = part.length ∧ c ≤ 1 := by
  obtain ⟨h1, h2, h3⟩ := h
  rw [vl_take_all (by rw [h1.len]; exact Nat.le_refl _), vl_take_all (Nat.le_refl _), vl_take_all hlen] at h2
  exact ⟨h2, h1.lim, h1.len, h3⟩
/-- The state ahead of the first round. -/
theorem long_start {B P la lb m : Nat} (hB : 0 < B) {xs ys As : List Nat} (hx : Lim B xs) (hla : xs.length = la) (hlb : ys.length = lb) (hy : Top ys) (hlb0 : 0 < lb) (hm : m + lb = la + 1) (hA : Lim B As) (hAl : As.length = la + 1) (hv : vl B As = vl B xs * P) (hP : 0 < P) :
    Long B (vl B ys * P) (vl B xs * P) As (List.replicate m 0) m := by
  refine ⟨hA, lim_zeros hB m, ?_, ?_⟩
  · have h1 := vl_take_drop B As m (by omega)
    have h2 := vl_lt hx
    have h3 := vl_top (B := B) hy (by intro e; subst e; simp at hlb; omega)
    rw [hlb] at h3
    rw [hla] at h2
    have h4 : B ^ la = B ^ m * B ^ (lb - 1) := by rw [← Nat.pow_add]; congr 1; omega
    have h5 : vl B xs * P < B ^ m * (vl B ys * P) := by
      have a : vl B xs * P < B ^ la * P := (Nat.mul_lt_mul_right hP).2 h2
      have b : B ^ m * (B ^ (lb - 1) * P) ≤ B ^ m * (vl B ys * P) := Nat.mul_le_mul_left _ (Nat.mul_le_mul_right _ h3)
      rw [h4, Nat.mul_assoc] at a
      omega
    have h6 : B ^ m * vl B (As.drop m) < B ^ m * (vl B ys * P) := by omega
    exact Nat.lt_of_mul_lt_mul_left h6
  · rw [List.drop_of_length_le (by simp), vl_nil, Nat.mul_zero, Nat.mul_zero, Nat.add_zero, hv]
/-- The state behind the last round. -/
theorem long_end {B P n : Nat} {xs ys cur qs : List Nat} (h : Long B (vl B ys * P) (vl B xs * P) cur qs 0) (hP : 0 < P) (hD : vl B ys * P < B ^ n) (hn : n ≤ cur.length) : vl B (cur.take n) / P = vl B xs % vl B ys ∧ vl B qs = vl B xs / vl B ys := by
  have h1 := h.less
  have h2 := h.eq
  rw [List.drop_zero] at h1 h2
  rw [Nat.pow_zero, Nat.one_mul] at h2
  have h3 := zeros_above (cur := cur) (i := 0) (n := n) (by rw [List.drop_zero]; exact h1) hD (by omega)
  rw [Nat.zero_add] at h3
  have h4 := vl_take_drop B cur n hn
  rw [h3, Nat.mul_zero, Nat.add_zero] at h4
  have := unscale hP h2 h1
  rw [h4] at this
  exact this
end Go.Proofs.YtddfigbpckhfbaaGreatDoor

namespace Go.Proofs.YtddfigbpckhfbaaGreatDoor
open Go.RowKit Go.Lib


set_option maxRecDepth 100000 in
set_option maxHeartbeats 1000000 in
theorem addTo_any (g o cap cb : Nat) (A : Option Addr) (t : TypeId) (L R : List Value) (xs bs : List Nat) (w : World) (hA : At .u32 w g t L xs R) (ho : L.length = o) (hx : Lim B32 xs) (hb : Lim B32 bs) (hxn : xs.length ≤ 100000) (_hbn : bs.length ≤ xs.length)
    (hr : Rd .u32 w A bs) (hoff : bs ≠ [] → Off A g) :
    Calls Tryz.prog 243 #[.slice (some ⟨g, o, none⟩) xs.length cap, .slice A bs.length cb] w fun e w' => e = .returned (.tuple #[]) ∧ (∃ cur c, At .u32 w' g t L cur R ∧ AddR B32 xs bs cur xs.length c) ∧ w.grownBy w' (some g) := by
  go_enter Tryz.func243, Tryz.ntmps243
  go_wp2
  go_loopw [4, 8] (fun c i wr => ∃ (k z : Nat) (cur : List Nat), k ≤ xs.length ∧ i = .int .i64 k ∧ c = .int .u64 z ∧ At .u32 wr g t L cur R ∧ AddR B32 xs bs cur k z ∧ w.grownBy wr (some g)) (fun _ i _ => xs.length - (RowKit.intOf i).toNat)
  case atStart => exact ⟨0, 0, xs, Nat.zero_le _, rfl, rfl, hA, addR_start hx, grown_refl _ _⟩
  case round =>
    obtain ⟨k, z, cur, hk, rfl, rfl, hAt, hR, hG⟩ := hrel
    have hc1 : z ≤ 1 := hR.2.2
    by_cases hlt : k < xs.length
    · have hcl := hAt.cell ho k (by rw [hR.1.len]; exact hlt)
      have hfz := hAt.frozen (o + k)
      rw [up_get hR.1 hlt] at hcl
      obtain ⟨x, hxe, hxk⟩ := lim32 hx k hlt
      rw [hxe] at hcl
      have HX := Lib.hid hxe; clear hxe
      by_cases hb2 : k < bs.length
      · obtain ⟨gb, ob, rfl, hcb⟩ := hr.kept hG (hoff (List.ne_nil_of_length_pos (by omega))) k hb2
        obtain ⟨y, hye, hyk⟩ := lim32 hb k hb2
        rw [hye] at hcb
        have HY := Lib.hid hye; clear hye
        go_wp2
        go_roundw
        case rel => exact ⟨k + 1, (z + x + y) / 4294967296, cur.set k ((z + x + y) % 4294967296), hlt, by go_num, by go_num, hAt.set ho k _ (by rw [hR.1.len]; exact hlt), addR_step (by decide) hR hx hb hlt _ (by rw [HX.out, getD_of hb2, HY.out]), grown_set hG _⟩
        case measure => simp [RowKit.intOf]; omega
      · go_wp2
        go_roundw
        case rel => exact ⟨k + 1, (z + x) / 4294967296, cur.set k ((z + x) % 4294967296), hlt, by go_num, by go_num, hAt.set ho k _ (by rw [hR.1.len]; exact hlt), addR_step (by decide) hR hx hb hlt _ (by rw [HX.out, getD_no hb2]; rfl), grown_set hG _⟩
        case measure => simp [RowKit.intOf]; omega
    · obtain rfl : k = xs.length := by omega
      go_wp2
      go_end0
      exact ⟨rfl, ⟨cur, z, hAt, hR⟩, hG⟩
end Go.Proofs.YtddfigbpckhfbaaGreatDoor

namespace Go.Proofs.YtddfigbpckhfbaaGreatDoor
open Go.RowKit Go.Lib

theorem bitLenAux_bounds : ∀ (f x : Nat), x < 2 ^ f → x ≠ 0 → 0 < Lib.bitLenAux f x ∧ Lib.bitLenAux f x ≤ f ∧ 2 ^ (Lib.bitLenAux f x - 1) ≤ x ∧ x < 2 ^ Lib.bitLenAux f x
  | 0, x, h, h0 => by simp at h; exact absurd h h0
  | f + 1, x, h, h0 => by
    rw [Lib.bitLenAux, if_neg h0]
    by_cases h2 : x / 2 = 0
    · have hx1 : x = 1 := by omega
      subst hx1
      have : Lib.bitLenAux f (1 / 2) = 0 := by cases f <;> simp [Lib.bitLenAux]
      rw [this]
      simp
    · obtain ⟨a, b, c, d⟩ := bitLenAux_bounds f (x / 2) (by rw [Nat.pow_succ] at h; omega) h2
      obtain ⟨m, hm⟩ : ∃ m, Lib.bitLenAux f (x / 2) = m + 1 := ⟨Lib.bitLenAux f (x / 2) - 1, by omega⟩
      rw [hm] at b c d ⊢
      rw [show 1 + (m + 1) = m + 1 + 1 by omega]
      simp only [Nat.add_sub_cancel, Nat.pow_succ] at c d ⊢
      omega
/-- By how much a limb is shifted, lest its highest digit be 0. -/
theorem lead_spec {y : Nat} (h0 : y ≠ 0) (hy : y < 4294967296) : ∃ k : Nat, (32 : Int) - (Lib.bitLen y : Int) = (k : Int) ∧ k < 32 ∧ 2147483648 ≤ y * 2 ^ k ∧ (y + 1) * 2 ^ k ≤ 4294967296 := by
  have e : Lib.bitLen y = Lib.bitLenAux 32 y := Lib.bitLenAux_fuel 32 y hy 64 (by omega)
  obtain ⟨a, b, c, d⟩ := bitLenAux_bounds 32 y hy h0
  rw [← e] at a b c d
  refine ⟨32 - Lib.bitLen y, by omega, by omega, ?_, ?_⟩
  · have h := Nat.mul_le_mul_right (2 ^ (32 - Lib.bitLen y)) c
    rw [← Nat.pow_add, show Lib.bitLen y - 1 + (32 - Lib.bitLen y) = 31 by omega] at h
    exact h
  · have h := Nat.mul_le_mul_right (2 ^ (32 - Lib.bitLen y)) (Nat.succ_le_of_lt d)
    rw [← Nat.pow_add, show Lib.bitLen y + (32 - Lib.bitLen y) = 32 by omega] at h
    exact h

/-- How a division ends: two rows of the call's own, in two blocks. -/
def DivEnd (w : World) (a b : Nat) (m : Nat) (e : Ending) (w' : World) : Prop :=
  ∃ (v v' : Value) (qs rs : List Nat), e = .returned (.tuple #[v, v']) ∧ Own .u32 w' w.heap.size 206 v qs ∧ Own .u32 w' w.heap.size 206 v' rs ∧ Lim B32 qs ∧ Lim B32 rs ∧ vl B32 qs = a / b ∧ vl B32 rs = a % b ∧ qs.length ≤ m ∧ rs.length ≤ m ∧
    v.ownBlock ≠ v'.ownBlock ∧ Below w.heap.size w w'

theorem zeros_nums (n : Nat) : (madeCells (Value.int .u32 0).cells (n * 1)).toList = nums .u32 (List.replicate n 0) := by
  rw [Nat.mul_one]
  show (madeCells #[Value.int .u32 0] n).toList = _
  rw [toList_madeCells_one, nums, List.map_replicate]
  rfl
/-- A new block of noughts. -/
theorem at_made (w : World) (n : Nat) : At .u32 (w.alloc (.cells (madeCells (Value.int .u32 0).cells (n * 1)) 206)) w.heap.size 206 [] (List.replicate n 0) [] :=
  ⟨_, heap_alloc_new w _, by rw [zeros_nums]; simp⟩

/-- Two new blocks, one behind the other, and a draw. -/
theorem two_new (w : World) (n m : Nat) : At .u32 (((w.alloc (.cells (madeCells #[Value.int .u32 0] n) 206)).alloc (.cells (madeCells #[Value.int .u32 0] m) 206)).drew) w.heap.size 206 [] (List.replicate n 0) [] ∧
    At .u32 (((w.alloc (.cells (madeCells #[Value.int .u32 0] n) 206)).alloc (.cells (madeCells #[Value.int .u32 0] m) 206)).drew) (w.heap.size + 1) 206 [] (List.replicate m 0) [] ∧
    Below w.heap.size w (((w.alloc (.cells (madeCells #[Value.int .u32 0] n) 206)).alloc (.cells (madeCells #[Value.int .u32 0] m) 206)).drew) := by
  have a := at_made w n
  have b := at_made (w.alloc (.cells (madeCells #[Value.int .u32 0] n) 206)) m
  rw [Nat.mul_one] at a b
  have e : (w.alloc (.cells (madeCells #[Value.int .u32 0] n) 206)).heap.size = w.heap.size + 1 := by simp
  rw [e] at b
  exact ⟨(a.alloc _).drew, b.drew, (((Below.refl _ _).alloc (Nat.le_refl _) _).alloc (by simp) _).drew⟩

set_option maxRecDepth 100000 in
set_option maxHeartbeats 4000000 in
theorem divLong_any (A A' : Option Addr) (ca cb : Nat) (xs ys : List Nat) (w : World) (hx : Lim B32 xs) (hy : Norm B32 ys) (hy2 : 2 ≤ ys.length) (hl : ys.length ≤ xs.length) (hxn : xs.length ≤ 1000) (hra : Rd .u32 w A xs) (hrb : Rd .u32 w A' ys) :
    Calls Tryz.prog 240 #[.slice A xs.length ca, .slice A' ys.length cb] w (DivEnd w (vl B32 xs) (vl B32 ys) xs.length) := by
  obtain ⟨i0, hi, hz0, hz1, hz2⟩ := info_parts info_u32
  have hmk : ∀ (n : Nat) (W : World), n ≤ 100000 → (Instr.makeSlice 189 (.int .i64 (n : Int)) (.int .i64 (n : Int))).run Tryz.prog W = .ok (.slice (some ⟨W.heap.size, 0, none⟩) n n) (W.alloc (.cells (madeCells (Value.int .u32 0).cells (n * 1)) 206)) := fun n W hn => by
    have := run_make (P := Tryz.prog) W 189 206 i0 (.int .u32 0) Tryz.underlying189 hi hz0 .i64 .i64 (n : Int) (n : Int) (by omega) (by omega) (by rw [hz2]; omega) (by omega)
    rw [hz1] at this
    exact this
  obtain ⟨g', o', rfl, hcb⟩ := hrb.at_ (by intro e; rw [e] at hy2; simp at hy2)
  obtain ⟨g0, o0, rfl, _⟩ := hra.at_ (by intro e; rw [e] at hl; simp at hl; rw [hl] at hy2; simp at hy2)
  have hyt := (top_get (xs := ys) (by omega)).1 hy.2
  obtain ⟨y, hye, hyk⟩ := lim32 hy.1 (ys.length - 1) (by omega)
  have hc1 := hcb (ys.length - 1) (by omega)
  rw [hye] at hyt hc1
  obtain ⟨k, hk1, hk2, hk3, hk4⟩ := lead_spec hyt hyk
  have hmkl : ∀ W : World, (Instr.makeSlice 189 (.int .i64 ((xs.length : Int) + 1)) (.int .i64 ((xs.length : Int) + 1))).run Tryz.prog W = .ok (.slice (some ⟨W.heap.size, 0, none⟩) (xs.length + 1) (xs.length + 1)) (W.alloc (.cells (madeCells (Value.int .u32 0).cells ((xs.length + 1) * 1)) 206)) := fun W => hmk (xs.length + 1) W (by omega)
  have hmkb : ∀ W : World, (Instr.makeSlice 189 (.int .i64 (ys.length : Int)) (.int .i64 (ys.length : Int))).run Tryz.prog W = .ok (.slice (some ⟨W.heap.size, 0, none⟩) ys.length ys.length) (W.alloc (.cells (madeCells (Value.int .u32 0).cells (ys.length * 1)) 206)) := fun W => hmk ys.length W (by omega)
  obtain ⟨m, hm⟩ : ∃ m : Nat, m + ys.length = xs.length + 1 := ⟨xs.length + 1 - ys.length, by omega⟩
  have hmI : (xs.length : Int) - (ys.length : Int) + 1 = (m : Int) := by omega
  have hmkq : ∀ W : World, (Instr.makeSlice 189 (.int .i64 (m : Int)) (.int .i64 (m : Int))).run Tryz.prog W = .ok (.slice (some ⟨W.heap.size, 0, none⟩) m m) (W.alloc (.cells (madeCells (Value.int .u32 0).cells (m * 1)) 206)) := fun W => hmk m W (by omega)
  have HM := Lib.hid hm
  have hmb : m ≤ 2000 := by omega
  have hm1 : 1 ≤ m := by omega
  have HP := Lib.hid (show 2 ^ k ≤ B32 from (Nat.pow_le_pow_right (by omega) (show k ≤ 32 by omega) : 2 ^ k ≤ 2 ^ 32))
  have HXN := Lib.hid (show xs ≠ [] from List.ne_nil_of_length_pos (by omega))
  have HYN := Lib.hid (show ys ≠ [] from List.ne_nil_of_length_pos (by omega))
  have HYE := Lib.hid hye
  clear hm
  have cZ := Tryz.bits_LeadingZeros32 (y : Int) w (by omega) (by omega)
  rw [show ((y : Int)).toNat = y from rfl, hk1] at cZ
  have CZ := Lib.hid cZ
  clear cZ hk1
  have s1 : IntKind.i64.wrap ((xs.length : Int) + 1) = (xs.length : Int) + 1 := IntWalk.i64_in _ (by omega)
  clear hmk hcb hye
  go_enter Tryz.func240, Tryz.ntmps240
  go_wp2_with fail
  refine CZ.out.mono ?_
  rintro e w ⟨rfl, rfl⟩
  go_wp2
  go_region
  all_goals go_wp2_with fail
  all_goals
    first
    | (obtain ⟨fL, fB, fW⟩ := two_new w (xs.length + 1) ys.length
       obtain ⟨W1, hW⟩ : ∃ W1, (((w.alloc (.cells (madeCells #[Value.int .u32 0] (xs.length + 1)) 206)).alloc (.cells (madeCells #[Value.int .u32 0] ys.length) 206)).drew) = W1 := ⟨_, rfl⟩
       rw [hW] at fL fB fW
       rw [hW]
       clear hW
       obtain ⟨gb, hgb⟩ : ∃ gb, w.heap.size + 1 = gb := ⟨_, rfl⟩
       obtain ⟨gl, hgl⟩ : ∃ gl, w.heap.size = gl := ⟨_, rfl⟩
       have hbl : w.heap.size ≤ gl := by omega
       have hbb : w.heap.size ≤ gb := by omega
       have hne : gl ≠ gb := by omega
       rw [hgb] at fB
       rw [hgl] at fL
       rw [hgb, hgl]
       clear hgl hgb)
    | (obtain ⟨fB, fL, fW⟩ := two_new w ys.length (xs.length + 1)
       obtain ⟨W1, hW⟩ : ∃ W1, (((w.alloc (.cells (madeCells #[Value.int .u32 0] ys.length) 206)).alloc (.cells (madeCells #[Value.int .u32 0] (xs.length + 1)) 206)).drew) = W1 := ⟨_, rfl⟩
       rw [hW] at fL fB fW
       rw [hW]
       clear hW
       obtain ⟨gl, hgl⟩ : ∃ gl, w.heap.size + 1 = gl := ⟨_, rfl⟩
       obtain ⟨gb, hgb⟩ : ∃ gb, w.heap.size = gb := ⟨_, rfl⟩
       have hbl : w.heap.size ≤ gl := by omega
       have hbb : w.heap.size ≤ gb := by omega
       have hne : gl ≠ gb := by omega
       rw [hgb] at fB
       rw [hgl] at fL
       rw [hgl, hgb]
       clear hgl hgb)
  all_goals
    have c1 := shiftUp_any gl 0 (xs.length + 1) ca k (some ⟨g0, o0, none⟩) 206 [] [] (List.replicate (xs.length + 1) 0) xs W1 fL rfl (lim_zeros (by decide) _) hx (by simp; omega) (by simp) hk2 (hra.below fW) (fun _ => hra.off HXN.out hbl)
    rw [List.length_replicate] at c1
    refine c1.mono ?_
    clear c1
    rintro e W2 ⟨rfl, ⟨cur, c, hS, hl1, _, hA1⟩, hG1⟩
    rw [List.length_replicate] at hl1 hA1
    rw [putTop, if_pos (Nat.lt_succ_self _)] at hA1
    obtain ⟨b1, b2, b3⟩ := shu_more hS hl1 (HP.out)
    obtain ⟨As, hAs⟩ : ∃ As, cur.set xs.length c = As := ⟨_, rfl⟩
    rw [hAs] at hA1 b1 b2 b3
    have fB2 : At .u32 W2 gb 206 [] (List.replicate ys.length 0) [] := fB.kept hG1 (by simpa using hne.symm)
    have fW2 : Below w.heap.size w W2 := grown_below fW hG1 fW.size hbl
    have B2 := Lib.hid b2
    have B3 := Lib.hid b3
    clear hS hl1 hAs hG1 b2 b3 fL fB fW
    go_wp2_with fail
    have c2 := shiftUp_any gb 0 ys.length cb k (some ⟨g', o', none⟩) 206 [] [] (List.replicate ys.length 0) ys W2 fB2 rfl (lim_zeros (by decide) _) hy.1 (by simp; omega) (by simp) hk2 (hrb.below fW2) (fun _ => hrb.off HYN.out hbb)
    rw [List.length_replicate] at c2
    refine c2.mono ?_
    clear c2
    rintro e W3 ⟨rfl, ⟨Ds, c2, hS, hl1, _, hD1⟩, hG2⟩
    rw [List.length_replicate] at hl1 hD1
    rw [putTop, if_neg (Nat.lt_irrefl _)] at hD1
    obtain ⟨_, d2, d3, d4⟩ := shu_same (H := 2147483648) hS hl1 hy.1 (by omega) HYE.out hk3 hk4
    have dl := hS.2.2
    have fA3 : At .u32 W3 gl 206 [] As [] := hA1.kept hG2 (by simpa using hne)
    have fW3 : Below w.heap.size w W3 := grown_below fW2 hG2 fW2.size hbb
    rw [d2] at d4
    have D2 := Lib.hid d2
    have D3 := Lib.hid d3
    have D4 := Lib.hid d4
    have HDL := Lib.hid hl1
    clear hS d2 d3 d4 hl1 hG2 fB2 fW2 hA1
    go_wp2
    have fQ4 := at_made W3 m
    rw [Nat.mul_one] at fQ4
    have fA4 := fA3.alloc (.cells (madeCells (Value.int .u32 0).cells m) 206)
    have fB4 := hD1.alloc (.cells (madeCells (Value.int .u32 0).cells m) 206)
    have fW4 := fW3.alloc fW3.size (.cells (madeCells (Value.int .u32 0).cells m) 206)
    have nl := fA3.lt
    have nb := hD1.lt
    have nq := fW3.size
    have HS0 := Lib.hid (long_start (P := 2 ^ k) (m := m) (by decide) hx rfl rfl hy.2 (by omega) HM.out b1 B2.out B3.out (Nat.pow_pos (by omega)))
    obtain ⟨gq, hgq⟩ : ∃ gq, W3.heap.size = gq := ⟨_, rfl⟩
    rw [hgq] at nl nb nq
    rw [hgq] at fQ4
    rw [hgq]
    clear hgq fA3 hD1 fW3
    go_loopw [10] (fun i wr => ∃ (j : Nat) (cur qs : List Nat), j ≤ m ∧ i = .int .i64 ((j : Int) - 1) ∧ At .u32 wr gl 206 [] cur [] ∧ At .u32 wr gb 206 [] Ds [] ∧ At .u32 wr gq 206 [] qs [] ∧
        Long B32 (vl B32 ys * 2 ^ k) (vl B32 xs * 2 ^ k) cur qs j ∧ cur.length = xs.length + 1 ∧ qs.length = m ∧ Below w.heap.size w wr) (fun i _ => (RowKit.intOf i + 1).toNat)
    case atStart => exact ⟨m, As, List.replicate m 0, Nat.le_refl _, rfl, fA4, fB4, fQ4, HS0.out, B2.out, List.length_replicate, fW4⟩
    case round =>
      clear fA4 fB4 fQ4 fW4 HS0
      obtain ⟨j, cur, qs, hj, rfl, fA, fB, fQ, hL, hcl, hql, fW⟩ := hrel
      have HCL := Lib.hid hcl
      have HQL := Lib.hid hql
      clear hcl hql
      rcases j with _ | j
      · have HE := Lib.hid (long_end hL (Nat.pow_pos (by omega)) D4.out (by rw [HCL.out]; omega))
        have hlt : (cur.take ys.length).length = ys.length := by rw [List.length_take, HCL.out]; omega
        have fA' : At .u32 wr gl 206 [] (cur.take ys.length) (nums .u32 (cur.drop ys.length)) := fA.recut (by rw [List.nil_append, List.append_nil, List.nil_append, ← nums_append, List.take_append_drop])
        have c4 := shiftDown_any gl 0 (xs.length + 1) k 206 [] (nums .u32 (cur.drop ys.length)) (cur.take ys.length) wr fA' rfl (lim_take hL.lim _) (by omega) hk2
        rw [hlt] at c4
        have C4 := Lib.hid c4
        have HLT := Lib.hid hlt
        clear c4 hlt fA'
        go_wp2_with fail
        refine C4.out.mono ?_
        rintro e W5 ⟨rfl, ⟨cur5, v5, fA5, hS5⟩, hG5⟩
        have hv5 := hS5.2.1
        have hl5 := hS5.1.len
        rw [List.drop_zero, List.drop_zero] at hv5
        rw [HLT.out] at hl5
        have fQ5 : At .u32 W5 gq 206 [] qs [] := fQ.kept hG5 (by simp; omega)
        have fW5 : Below w.heap.size w W5 := grown_below fW hG5 fW.size hbl
        have o1 := own_of_at (B := w.heap.size) (cap := m) fQ5 nq (by rw [HQL.out]; simp) (by unfold maxLen; omega)
        have o2 := own_of_at (B := w.heap.size) (cap := xs.length + 1) fA5 hbl (by rw [hl5, nums_len, List.length_drop, HCL.out]; omega) (by unfold maxLen; omega)
        rw [HQL.out] at o1
        rw [hl5] at o2
        have O1 := Lib.hid o1
        have O2 := Lib.hid o2
        have V5 := Lib.hid hv5
        have L5 := Lib.hid hl5
        have ll := hS5.1.lim
        have lq := hL.qlim
        clear o1 o2 hv5 hl5 hS5 hG5 fQ5 fA fB fQ fW fA5
        go_wp2
        go_ret2
        exact ⟨_, _, qs, cur5, rfl, O1.out, O2.out, lq, ll, HE.out.2, by rw [V5.out]; exact HE.out.1, by rw [HQL.out]; omega, by rw [L5.out]; exact hl, by simp [Value.ownBlock]; omega, fW5⟩
      · have hjn : j + 1 + ys.length ≤ xs.length + 1 := by have := HM.out; omega
        have hpl : ((cur.drop j).take (ys.length + 1)).length = ys.length + 1 := by rw [List.length_take, List.length_drop, HCL.out]; omega
        have hlp := long_part hL D4.out (by rw [HCL.out]; omega)
        have hplim : Lim B32 ((cur.drop j).take (ys.length + 1)) := lim_take (lim_drop hL.lim _) _
        have hcut : cur.take j ++ (cur.drop j).take (ys.length + 1) ++ cur.drop (j + 1 + ys.length) = cur := by
          rw [List.append_assoc, show j + 1 + ys.length = j + (ys.length + 1) by omega, ← List.drop_drop, List.take_append_drop, List.take_append_drop]
        have fP : At .u32 wr gl 206 (nums .u32 (cur.take j)) ((cur.drop j).take (ys.length + 1)) (nums .u32 (cur.drop (j + 1 + ys.length))) := fA.recut (by
          rw [List.nil_append, List.append_nil, ← nums_append, ← nums_append, hcut])
        have hoj : (nums .u32 (cur.take j)).length = j := by rw [nums_len, List.length_take, HCL.out]; omega
        obtain ⟨part, hpart⟩ : ∃ part, (cur.drop j).take (ys.length + 1) = part := ⟨_, rfl⟩
        rw [hpart] at hpl hlp hplim fP
        have hgs := guess_of (n := ys.length) dl hplim hy2 HDL.out hpl (by have := D3.out (by rw [HDL.out]; omega); show 4294967296 ≤ _; omega) (by decide) (by rw [D2.out, hlp.1]; exact hlp.2)
        have cG := fun cp => guess_any gl j cp gb 0 ys.length ys.length _ _ _ _ _ _ _ _ wr hy2 (by omega) hgs (lim_get hplim _ _) (lim_get hplim _ _)
          (fB.cell (o := 0) rfl (ys.length - 1) (by rw [HDL.out]; omega)) (fB.cell (o := 0) rfl (ys.length - 2) (by rw [HDL.out]; omega))
          (fP.cell hoj ys.length (by omega)) (fP.cell hoj (ys.length - 1) (by omega)) (fP.cell hoj (ys.length - 2) (by omega))
        rw [← vl_two HDL.out hy2, ← vl_three hpl hy2, D2.out, hlp.1] at cG
        have CG := Lib.hid cG
        have HL := Lib.hid hL
        have HPL := Lib.hid hpl
        have HLP := Lib.hid hlp
        have HPL2 := Lib.hid hplim
        have HOJ := Lib.hid hoj
        clear cG hgs hcut hpart hpl hlp hL hplim hoj fA
        rw [show ((j + 1 : Nat) : Int) - 1 = (j : Int) by omega]
        go_wp2_with fail
        rw [show j + ys.length + 1 - j = ys.length + 1 by omega]
        refine (CG.out _).mono ?_
        rintro e W5 ⟨⟨t, rfl, ht1, ht2, ht3⟩, nd, rfl⟩
        have c6 := takeFrom_any gl j (xs.length + 1 - j) ys.length t (some ⟨gb, 0, none⟩) 206 (nums .u32 (cur.take j)) (nums .u32 (cur.drop (j + 1 + ys.length))) part Ds (wr.drewN nd) (fP.drewN nd) HOJ.out HPL2.out dl (by rw [HPL.out]; omega) (by rw [HPL.out, HDL.out]; omega) ht3
          (fB.drewN nd).rd (fun _ a e => by cases e; exact hne.symm)
        rw [HPL.out, HDL.out] at c6
        have C6 := Lib.hid c6
        have fQ5 := fQ.drewN nd
        have fB5 := fB.drewN nd
        have fW5 := below_drewN' fW nd
        clear c6 CG fQ fB fW fP
        go_wp2_with fail
        refine C6.out.mono ?_
        rintro e W6 ⟨⟨cur1, m1, r1, fP1, hT, rfl⟩, hG6⟩
        have te := take_end (part := part) (by rw [HPL.out]; exact hT) (by rw [HPL.out, HDL.out]; omega) (by show t ≤ 4294967296; omega)
        rw [HPL.out, D2.out, HLP.out.1] at te
        have fQ6 : At .u32 W6 gq 206 [] qs [] := fQ5.kept hG6 (by simp; omega)
        have fB6 : At .u32 W6 gb 206 [] Ds [] := fB5.kept hG6 (by simpa using hne.symm)
        have fW6 : Below w.heap.size w W6 := grown_below fW5 hG6 fW5.size hbl
        have hDp : 0 < vl B32 ys * 2 ^ k := by
          have := HL.out.less
          omega
        have hMl : vl B32 cur1 < B32 ^ (ys.length + 1) := by have := vl_lt te.2.2.1; rwa [te.2.2.2.1] at this
        have hfz : W6.frozen? ⟨gq, j, none⟩ = false := fQ6.frozen j
        obtain ⟨u, hu⟩ : ∃ u, W6.cell? ⟨gq, j, none⟩ = some u := ⟨_, by have := fQ6.cell (o := 0) rfl j (by rw [HQL.out]; omega); rwa [Nat.zero_add] at this⟩
        clear hT hG6 fQ5 fB5 fW5 C6
        by_cases hr1 : r1 = 1
        · subst hr1
          have c7 := addTo_any gl j (xs.length + 1 - j) ys.length (some ⟨gb, 0, none⟩) 206 (nums .u32 (cur.take j)) (nums .u32 (cur.drop (j + 1 + ys.length))) cur1 Ds W6 fP1 HOJ.out te.2.2.1 dl (by rw [te.2.2.2.1]; omega) (by rw [te.2.2.2.1, HDL.out]; omega) fB6.rd (fun _ a e => by cases e; exact hne.symm)
          rw [te.2.2.2.1, HDL.out] at c7
          have C7 := Lib.hid c7
          have TE := Lib.hid te
          have HML := Lib.hid hMl
          have HT1 := Lib.hid ht1
          have HT2 := Lib.hid ht2
          clear c7 te hfz hu hMl ht1 ht2
          go_wp2_with fail
          refine C7.out.mono ?_
          rintro e W7 ⟨rfl, ⟨cur2, c2, fP2, hA2⟩, hG7⟩
          have ae := add_end (part := cur1) (by rw [TE.out.2.2.2.1]; exact hA2) (by rw [TE.out.2.2.2.1, HDL.out]; omega)
          rw [TE.out.2.2.2.1, D2.out] at ae
          have hM2 : vl B32 cur2 < B32 ^ (ys.length + 1) := by have := vl_lt ae.2.1; rwa [ae.2.2.1] at this
          have ty := take_yes (by have := TE.out.2.1; rwa [Nat.mul_one] at this) ae.1 HML.out hM2 ae.2.2.2 HT1.out HT2.out hDp
          have ls := long_step (n := ys.length) HL.out D4.out hDp (by rw [HCL.out]; omega) (by rw [HQL.out]; omega) ae.2.2.1 ae.2.1 ty.1
          rw [← ty.2.1] at ls
          have fQ7 : At .u32 W7 gq 206 [] qs [] := fQ6.kept hG7 (by simp; omega)
          have fB7 : At .u32 W7 gb 206 [] Ds [] := fB6.kept hG7 (by simpa using hne.symm)
          have fW7 : Below w.heap.size w W7 := grown_below fW6 hG7 fW6.size hbl
          have hfz : W7.frozen? ⟨gq, j, none⟩ = false := fQ7.frozen j
          obtain ⟨u, hu⟩ : ∃ u, W7.cell? ⟨gq, j, none⟩ = some u := ⟨_, by have := fQ7.cell (o := 0) rfl j (by rw [HQL.out]; omega); rwa [Nat.zero_add] at this⟩
          have ht0 : 1 ≤ t := ty.2.2
          have hal := ae.2.2.1
          have LS := Lib.hid ls
          have HAL := Lib.hid hal
          have fA7 : At .u32 W7 gl 206 [] (cur.take j ++ cur2 ++ cur.drop (j + 1 + ys.length)) [] := fP2.recut (by rw [List.nil_append, List.append_nil, nums_append, nums_append])
          have eT : IntKind.u32.wrap ((t : Int) - 1) = ((t - 1 : Nat) : Int) := by rw [IntWalk.u32_in _ (by omega)]; omega
          have q1 := (fQ7.set (o := 0) rfl j (t - 1) (by rw [HQL.out]; omega))
          rw [Nat.zero_add] at q1
          obtain ⟨t1, ht1⟩ : ∃ t1, t - 1 = t1 := ⟨_, rfl⟩
          have et : (t : Int) - 1 = (t1 : Int) := by omega
          have ht1b : t1 < 4294967296 := by omega
          rw [ht1] at q1 ls
          clear ls ty hM2 ae hal hA2 hG7 fP1 fP2 fQ6 fB6 fW6 C7 eT
          have HQ1 := Lib.hid q1
          have HT9 := Lib.hid ht1
          clear q1 ht1
          go_wp2
          go_roundw
          case rel => exact ⟨j, _, _, by omega, rfl, fA7.far (by omega) _, fB7.far (by omega) _, HQ1.out, by have := LS.out.1; rwa [HT9.out] at this, by rw [List.length_append, List.length_append, List.length_take, List.length_drop, HAL.out, HCL.out]; omega, by rw [List.length_set, HQL.out], fW7.setCell nq _⟩
          case measure => simp [RowKit.intOf]
        · obtain rfl : r1 = 0 := by have := te.2.2.2.2; omega
          have tn := take_no (by have := te.2.1; rwa [Nat.mul_zero, Nat.add_zero] at this) ht1 ht2 hDp
          have ls := long_step (n := ys.length) HL.out D4.out hDp (by rw [HCL.out]; omega) (by rw [HQL.out]; omega) te.2.2.2.1 te.2.2.1 tn.1
          rw [← tn.2] at ls
          have hal := te.2.2.2.1
          have LS := Lib.hid ls
          have HAL := Lib.hid hal
          have fA7 : At .u32 W6 gl 206 [] (cur.take j ++ cur1 ++ cur.drop (j + 1 + ys.length)) [] := fP1.recut (by rw [List.nil_append, List.append_nil, nums_append, nums_append])
          have q1 := (fQ6.set (o := 0) rfl j t (by rw [HQL.out]; omega))
          rw [Nat.zero_add] at q1
          have HQ1 := Lib.hid q1
          clear q1 ls tn hal te fP1 fQ6 hMl ht1 ht2 hr1
          go_wp2
          go_roundw
          case rel => exact ⟨j, _, _, by omega, rfl, fA7.far (by omega) _, fB6.far (by omega) _, HQ1.out, LS.out.1, by rw [List.length_append, List.length_append, List.length_take, List.length_drop, HAL.out, HCL.out]; omega, by rw [List.length_set, HQL.out], fW6.setCell nq _⟩
          case measure => simp [RowKit.intOf]
end Go.Proofs.YtddfigbpckhfbaaGreatDoor

namespace Go.Proofs.YtddfigbpckhfbaaGreatDoor
open Go.RowKit Go.Lib

/-- What Div answers. -/
noncomputable def divRes (xs ys : List Nat) : List Nat × List Nat × Int :=
  if vld xs = true ∧ vld ys = true then (if ys = [] then ([], [], 1) else (dig B32 (vl B32 xs / vl B32 ys), dig B32 (vl B32 xs % vl B32 ys), 0)) else ([], [], 30)
/-- How Div ends. -/
def DivEnd3 (w : World) (x : List Nat × List Nat × Int) (e : Ending) (w' : World) : Prop :=
  ∃ v v' : Value, e = .returned (.tuple #[v, v', .int .i64 x.2.2]) ∧ Own .u32 w' w.heap.size 206 v x.1 ∧ Own .u32 w' w.heap.size 206 v' x.2.1 ∧ (v.ownBlock = none ∨ v.ownBlock ≠ v'.ownBlock) ∧ Below w.heap.size w w'
theorem natres_fix {xs : List Nat} (h : Norm B32 xs) : dig B32 (vl B32 xs) = xs := dig_eq (by decide) h rfl
theorem from_small (n : Nat) (w : World) (hn : n < 4294967296) : Calls Tryz.prog 156 #[.int .u64 (n : Int)] w (Makes .u32 206 w (dig B32 n)) := by
  have := from_any n 0 w hn (by omega)
  simpa using this
theorem vld_norm {xs : List Nat} (hx : Lim B32 xs) (h : vld xs = true) : Norm B32 xs := ⟨hx, (vld_iff.1 h).2⟩
theorem one_div {B d left : Nat} {xs cur : List Nat} (h : DivR B d xs cur 0 left) : vl B cur = vl B xs / d ∧ left = vl B xs % d ∧ Lim B cur ∧ cur.length = xs.length := by
  obtain ⟨h1, h2, h3⟩ := h
  rw [List.drop_zero, List.drop_zero] at h2
  have := Nat.div_mod_unique (show 0 < d by omega) (a := vl B xs) (c := left) (d := vl B cur)
  have h4 := this.2 ⟨by rw [h2]; omega, h3⟩
  exact ⟨h4.1.symm, h4.2.symm, h1.lim, h1.len⟩
theorem vl_pos {ys : List Nat} (hy : Top ys) (h : ys ≠ []) : 0 < vl B32 ys := Nat.lt_of_lt_of_le (Nat.pow_pos (by decide)) (vl_top hy h)

set_option maxRecDepth 100000 in
set_option maxHeartbeats 4000000 in
theorem div_any (A A' : Option Addr) (ca cb : Nat) (xs ys : List Nat) (w : World) (hx : Lim B32 xs) (hy : Lim B32 ys) (hxn : xs.length ≤ 1000) (hyn : ys.length ≤ 1000) (hA : A = none → ca = 0) (hra : Rd .u32 w A xs) (hrb : Rd .u32 w A' ys) :
    Calls Tryz.prog 205 #[.slice A xs.length ca, .slice A' ys.length cb] w (DivEnd3 w (divRes xs ys)) := by
  have cV := fun (W : World) (h : Rd .u32 W A xs) => valid_any A ca xs W (by omega) hx h
  have cU := fun (W : World) (h : Rd .u32 W A' ys) => valid_any A' cb ys W (by omega) hy h
  by_cases hvx : vld xs = true
  case neg =>
    have hvf : vld xs = false := by simpa using hvx
    have HR := Lib.hid (show divRes xs ys = ([], [], 30) by rw [divRes, if_neg (fun h => hvx h.1)])
    rw [hvf] at cV
    have CV := Lib.hid cV
    clear cV cU hvx hvf
    go_enter Tryz.func205, Tryz.ntmps205
    go_wp2_with fail
    refine (CV.out _ hra).mono ?_
    rintro e w' ⟨rfl, rfl⟩
    go_wp2
    go_ret3
    exact ⟨_, _, by rw [HR.out]; rfl, by rw [HR.out]; exact Own.nil _ _ _, by rw [HR.out]; exact Own.nil _ _ _, .inl rfl, Below.refl _ _⟩
  by_cases hvy : vld ys = true
  case neg =>
    have hvf : vld ys = false := by simpa using hvy
    have HR := Lib.hid (show divRes xs ys = ([], [], 30) by rw [divRes, if_neg (fun h => hvy h.2)])
    rw [hvx] at cV
    rw [hvf] at cU
    have CV := Lib.hid cV
    have CU := Lib.hid cU
    clear cV cU hvx hvy hvf
    go_enter Tryz.func205, Tryz.ntmps205
    go_wp2_with fail
    refine (CV.out _ hra).mono ?_
    rintro e w' ⟨rfl, rfl⟩
    go_wp2_with fail
    refine (CU.out _ hrb).mono ?_
    rintro e w' ⟨rfl, rfl⟩
    go_wp2
    go_ret3
    exact ⟨_, _, by rw [HR.out]; rfl, by rw [HR.out]; exact Own.nil _ _ _, by rw [HR.out]; exact Own.nil _ _ _, .inl rfl, Below.refl _ _⟩
  have hnx := vld_norm hx hvx
  have hny := vld_norm hy hvy
  by_cases hy0 : ys = []
  · have HR := Lib.hid (show divRes xs ys = ([], [], 1) by rw [divRes, if_pos ⟨hvx, hvy⟩, if_pos hy0])
    have hb : ((ys.length : Int) == 0) = true := by rw [hy0]; rfl
    rw [hvx] at cV
    rw [hvy] at cU
    have CV := Lib.hid cV
    have CU := Lib.hid cU
    clear cV cU hvx hvy hy0
    go_enter Tryz.func205, Tryz.ntmps205
    go_wp2_with fail
    refine (CV.out _ hra).mono ?_
    rintro e w' ⟨rfl, rfl⟩
    go_wp2_with fail
    refine (CU.out _ hrb).mono ?_
    rintro e w' ⟨rfl, rfl⟩
    go_wp2
    go_ret3
    exact ⟨_, _, by rw [HR.out]; rfl, by rw [HR.out]; exact Own.nil _ _ _, by rw [HR.out]; exact Own.nil _ _ _, .inl rfl, Below.refl _ _⟩
  have hyl : 1 ≤ ys.length := List.length_pos_iff.2 hy0
  have hb : ((ys.length : Int) == 0) = false := by simp; exact hy0
  have HR := Lib.hid (show divRes xs ys = (dig B32 (vl B32 xs / vl B32 ys), dig B32 (vl B32 xs % vl B32 ys), 0) by rw [divRes, if_pos ⟨hvx, hvy⟩, if_neg hy0])
  have hyp := vl_pos hny.2 hy0
  have cC := cmp_any A A' ca cb xs ys w hnx hny (by omega) (by omega) hra hrb
  rw [hvx] at cV
  rw [hvy] at cU
  have CV := Lib.hid cV
  have CU := Lib.hid cU
  clear cV cU hvx hvy
  by_cases hlt : vl B32 xs < vl B32 ys
  · rw [cmpZ_lt hlt] at cC
    have hd : vl B32 xs / vl B32 ys = 0 := Nat.div_eq_of_lt hlt
    have hm : vl B32 xs % vl B32 ys = vl B32 xs := Nat.mod_eq_of_lt hlt
    rw [hd, hm, dig_zero, natres_fix hnx] at HR
    have CC := Lib.hid cC
    clear cC hd hm hlt hyp
    go_enter Tryz.func205, Tryz.ntmps205
    go_wp2_with fail
    refine (CV.out _ hra).mono ?_
    rintro e w' ⟨rfl, rfl⟩
    go_wp2_with fail
    refine (CU.out _ hrb).mono ?_
    rintro e w' ⟨rfl, rfl⟩
    go_wp2_with fail
    refine CC.out.mono ?_
    rintro e w' ⟨rfl, nd, rfl⟩
    have cF := fresh_any A ca xs (w.drewN nd) (by omega) (hra.below (below_drewN' (Below.refl _ _) nd)) hA
    have CF := Lib.hid cF
    clear cF CC
    go_wp2_with fail
    refine CF.out.mono ?_
    rintro e w2 ⟨v, rfl, hO, hB⟩
    have HO := Lib.hid hO
    clear hO
    go_wp2
    go_ret3
    exact ⟨_, _, by rw [HR.out]; rfl, by rw [HR.out]; exact Own.nil _ _ _, by rw [HR.out]; exact HO.out, .inl rfl, (below_drewN' (Below.refl _ _) nd).trans hB⟩
  have hcz : ¬ cmpZ (vl B32 xs) (vl B32 ys) < 0 := by unfold cmpZ; split <;> omega
  obtain ⟨z, hz⟩ : ∃ z, cmpZ (vl B32 xs) (vl B32 ys) = z := ⟨_, rfl⟩
  rw [hz] at cC hcz
  have CC := Lib.hid cC
  have hxl : ys.length ≤ xs.length := by
    rcases Nat.lt_or_ge xs.length ys.length with h | h
    · exact absurd (norm_len_lt (by decide) hnx.1 hny.2 h) hlt
    · exact h
  clear cC hz
  by_cases hy1 : ys.length = 1
  · obtain ⟨d, hd⟩ : ∃ d, ys = [d] := List.length_eq_one_iff.1 hy1
    have hb1 : ((ys.length : Int) == 1) = true := by rw [hy1]; rfl
    have hdl : d < 4294967296 := by rw [hd] at hy; exact lim_one.1 hy
    have hd0 : 0 < d := by rw [hd, vl_one] at hyp; exact hyp
    obtain ⟨g', o', rfl, hcd⟩ := hrb.at_ hy0
    have hc0 := hcd 0 (by omega)
    have hvd : vl B32 ys = d := by rw [hd, vl_one]
    rw [hvd] at HR
    have hg0 : ys[0] = d := by simp [hd]
    rw [hg0] at hc0
    have hlb := World.block_lt_of_cell? w _ hc0
    have h01 : (0 : Int) < (ys.length : Int) := by omega
    clear hcd hg0 hvd hd hy1 hyp hlt
    go_enter Tryz.func205, Tryz.ntmps205
    go_wp2_with fail
    refine (CV.out _ hra).mono ?_
    rintro e w' ⟨rfl, rfl⟩
    go_wp2_with fail
    refine (CU.out _ hrb).mono ?_
    rintro e w' ⟨rfl, rfl⟩
    go_wp2_with fail
    refine CC.out.mono ?_
    rintro e w' ⟨rfl, nd, rfl⟩
    have cF := fresh_any A ca xs (w.drewN nd) (by omega) (hra.below (below_drewN' (Below.refl _ _) nd)) hA
    have CF := Lib.hid cF
    clear cF CC
    go_wp2_with fail
    refine CF.out.mono ?_
    rintro e w2 ⟨v, rfl, hO, hB⟩
    obtain ⟨g, cap, rfl, hgB, hcap⟩ := hO.form (by omega)
    obtain ⟨R, hAt, hR⟩ := at_of_own hO
    have cD := divLimb_any g 0 cap d 206 [] R xs w2 hAt rfl hx (by omega) hd0 hdl
    have CD := Lib.hid cD
    have HRR := Lib.hid hR
    have hB0 : Below w.heap.size w w2 := (below_drewN' (Below.refl _ _) nd).trans hB
    have hc2 : w2.cell? ⟨g', o', none⟩ = some (.int .u32 (d : Nat)) := (hB0.cell hlb).trans hc0
    clear cD CF hO hAt hR hB
    go_wp2_with fail
    refine CD.out.mono ?_
    rintro e w3 ⟨⟨left, cur, hA3, hD3, rfl⟩, hG3⟩
    obtain ⟨e1, e2, e3, e4⟩ := one_div hD3
    have hB3 : Below w.heap.size w w3 := grown_below hB0 hG3 hB0.size hgB
    have hO3 := own_of_at (B := w.heap.size) (cap := cap) hA3 hgB (by rw [e4]; exact HRR.out) hcap.2
    rw [e4] at hO3
    have cT := trim_own _ _ cur w3 e3 (by omega) hO3
    rw [e1] at cT
    have CT := Lib.hid cT
    have hleft : left < 4294967296 := by have := hD3.2.2; omega
    have E2 := Lib.hid e2
    clear hA3 hD3 hG3 e1 e2 e3 e4 cT hO3 CD hc2 hB0
    go_wp2_with fail
    refine CT.out.mono ?_
    rintro e w' ⟨⟨v', rfl, hO4, hbl⟩, rfl⟩
    have cM := from_small left w3 hleft
    have CM := Lib.hid cM
    have HO4 := Lib.hid hO4
    have HBL := Lib.hid hbl
    clear cM hO4 hbl CT
    go_wp2_with fail
    refine CM.out.mono ?_
    rintro e w5 ⟨v2, rfl, hO5, hB5⟩
    have hap := own_apart HO4.out (Nat.le_refl _) hO5
    have h4 := HO4.out.below hB5
    have h5 := hO5.mono hB3.size
    rw [E2.out] at h5
    have H4 := Lib.hid h4
    have H5 := Lib.hid h5
    have HAP := Lib.hid hap
    have hBz : Below w.heap.size w w5 := hB3.trans (hB5.mono hB3.size)
    clear hap h4 h5 hO5 hB5 CM
    go_wp2
    go_ret3
    exact ⟨_, _, by rw [HR.out]; rfl, by rw [HR.out]; exact H4.out, by rw [HR.out]; exact H5.out, HAP.out, hBz⟩
  · have hb1 : ((ys.length : Int) == 1) = false := by rw [beq_eq_false_iff_ne]; omega
    have hy2 : 2 ≤ ys.length := by omega
    clear hlt hyp hy1
    go_enter Tryz.func205, Tryz.ntmps205
    go_wp2_with fail
    refine (CV.out _ hra).mono ?_
    rintro e w' ⟨rfl, rfl⟩
    go_wp2_with fail
    refine (CU.out _ hrb).mono ?_
    rintro e w' ⟨rfl, rfl⟩
    go_wp2_with fail
    refine CC.out.mono ?_
    rintro e w' ⟨rfl, nd, rfl⟩
    have hBn := below_drewN' (Below.refl w.heap.size w) nd
    have cL := divLong_any A A' ca cb xs ys (w.drewN nd) hx hny hy2 hxl hxn (hra.below hBn) (hrb.below hBn)
    have CL := Lib.hid cL
    clear cL CC
    go_wp2_with fail
    refine CL.out.mono ?_
    rintro e w3 ⟨v, v', qs, rs, rfl, hq, hr, lq, lr, eq, er, nq, nr, hap, hB3⟩
    have cT := trim_own _ _ qs w3 lq (by omega) hq
    have cS := trim_own _ _ rs w3 lr (by omega) hr
    rw [eq] at cT
    rw [er] at cS
    have CT := Lib.hid cT
    have CS := Lib.hid cS
    have HAP := Lib.hid hap
    clear cT cS hq hr lq lr eq er nq nr hap CL
    go_wp2_with fail
    refine CT.out.mono ?_
    rintro e w' ⟨⟨v2, rfl, hO4, hbl⟩, rfl⟩
    have HO4 := Lib.hid hO4
    have HBL := Lib.hid hbl
    clear hO4 hbl
    go_wp2_with fail
    refine CS.out.mono ?_
    rintro e w' ⟨⟨v3, rfl, hO5, hbl⟩, rfl⟩
    have HO5 := Lib.hid hO5
    have hap2 := HAP.out
    rw [← HBL.out, ← hbl] at hap2
    have HAP2 := Lib.hid hap2
    clear hO5 hbl hap2
    go_wp2
    go_ret3
    exact ⟨_, _, by rw [HR.out]; rfl, by rw [HR.out]; exact HO4.out, by rw [HR.out]; exact HO5.out, .inr HAP2.out, hBn.trans hB3⟩
end Go.Proofs.YtddfigbpckhfbaaGreatDoor

namespace Go.Proofs.YtddfigbpckhfbaaGreatDoor
open Go.RowKit Go.Lib

/-- A natural, or that an argument is none. -/
noncomputable def res2 (xs ys : List Nat) (n : Nat) : List Nat × Int := if vld xs = true ∧ vld ys = true then natRes n else ([], 30)
theorem add_sum' {B : Nat} (hB : 2 ≤ B) {xs ys cur : List Nat} {c : Nat} (hx : Lim B xs) (hy : Lim B ys) (hl : ys.length ≤ xs.length) (h : AddR B (xs ++ [0]) ys cur (xs.length + 1) c) : vl B cur = vl B xs + vl B ys ∧ Lim B cur ∧ cur.length = xs.length + 1 := by
  have hll : (xs ++ [0]).length = xs.length + 1 := by simp
  have ae := add_end (part := xs ++ [0]) (by rw [hll]; exact h) (by rw [hll]; omega)
  rw [hll, vl_snoc, Nat.mul_zero, Nat.add_zero] at ae
  obtain ⟨e1, e2, e3, e4⟩ := ae
  have h1 := vl_lt hx
  have h2 := vl_lt hy
  have h3 : B ^ ys.length ≤ B ^ xs.length := Nat.pow_le_pow_right (by omega) hl
  have h4 : B ^ (xs.length + 1) = B ^ xs.length * B := Nat.pow_succ ..
  have hc : c = 0 := by
    rcases Nat.eq_zero_or_pos c with h | h
    · exact h
    · have a : B ^ (xs.length + 1) * 1 ≤ B ^ (xs.length + 1) * c := Nat.mul_le_mul_left _ h
      have b : B ^ xs.length * 2 ≤ B ^ xs.length * B := Nat.mul_le_mul_left _ hB
      omega
  subst hc
  exact ⟨by omega, e2, e3⟩
theorem add_sum {xs ys cur : List Nat} {c : Nat} (hx : Lim B32 xs) (hy : Lim B32 ys) (hl : ys.length ≤ xs.length) (h : AddR B32 (xs ++ [0]) ys cur (xs.length + 1) c) : vl B32 cur = vl B32 xs + vl B32 ys ∧ Lim B32 cur ∧ cur.length = xs.length + 1 := add_sum' (by decide) hx hy hl h
/-- 'copy(out, a)' into a new row that has one place more. -/
theorem copy_new (A : Option Addr) (cap g : Nat) (xs : List Nat) (W : World) (hr : Rd .u32 W A xs) (hA : At .u32 W g 206 [] (List.replicate (xs.length + 1) 0) []) :
    ∃ w2, (Builtin.copy_ #[189, 189] 3 #[.slice (some ⟨g, 0, none⟩) (xs.length + 1) (xs.length + 1), .slice A xs.length cap]).run Tryz.prog W = .ok (.int .i64 (xs.length : Int)) w2 ∧ At .u32 w2 g 206 [] (xs ++ [0]) [] ∧ W.grownBy w2 (some g) := by
  obtain ⟨i0, hi, hz0, hz1, hz2⟩ := info_parts info_u32
  have hsz : (Tryz.prog.info? 206).map (·.size) = some 1 := by rw [hi]; simp [hz1]
  by_cases h0 : xs = []
  · subst h0
    exact ⟨W, run_copy_none (P := Tryz.prog) W 189 189 3 206 _ A _ _ _ cap Tryz.underlying189 hsz rfl, hA, grown_refl _ _⟩
  · obtain ⟨ga, oa, rfl, _⟩ := hr.at_ h0
    obtain ⟨cs, h1, h2⟩ := hA
    have hl : cs.size = xs.length + 1 := by rw [← Array.length_toList, h2]; simp [nums_len]
    have hrun := run_copy_row (P := Tryz.prog) W 189 189 3 206 g 0 (xs.length + 1) (xs.length + 1) ⟨ga, oa, none⟩ xs.length cap cs 206 (nums .u32 xs) Tryz.underlying189 hsz h1
      (by rw [nums_len]; exact (Nat.min_eq_left (Nat.le_succ _)).symm) hr.news (by rw [nums_len]; omega) (nums_one _ _)
    refine ⟨_, by rw [hrun, nums_len]; rfl, ⟨_, setRow_heap W g cs _ 206 (0, 0) h1, ?_⟩, ?_⟩
    · rw [h2, nums_append]
      simp [nums]
    · refine ⟨rfl, rfl, rfl, by simp [World.setRow], fun k _ hk => ?_⟩
      simp only [World.setRow, Array.getElem?_modify]
      rw [if_neg (fun e => hk (by rw [e]))]

set_option maxRecDepth 100000 in
set_option maxHeartbeats 4000000 in
theorem add_any (A A' : Option Addr) (ca cb : Nat) (xs ys : List Nat) (w : World) (hx : Lim B32 xs) (hy : Lim B32 ys) (hxn : xs.length ≤ 1000) (hyn : ys.length ≤ 1000) (hra : Rd .u32 w A xs) (hrb : Rd .u32 w A' ys) :
    Calls Tryz.prog 207 #[.slice A xs.length ca, .slice A' ys.length cb] w (RowErr w.heap.size w (res2 xs ys (vl B32 xs + vl B32 ys))) := by
  have cV := fun (W : World) (h : Rd .u32 W A xs) => valid_any A ca xs W (by omega) hx h
  have cU := fun (W : World) (h : Rd .u32 W A' ys) => valid_any A' cb ys W (by omega) hy h
  by_cases hvx : vld xs = true
  case neg =>
    have hvf : vld xs = false := by simpa using hvx
    have HR := Lib.hid (show res2 xs ys (vl B32 xs + vl B32 ys) = ([], 30) by rw [res2, if_neg (fun h => hvx h.1)])
    rw [hvf] at cV
    have CV := Lib.hid cV
    clear cV cU hvx hvf
    go_enter Tryz.func207, Tryz.ntmps207
    go_wp2_with fail
    refine (CV.out _ hra).mono ?_
    rintro e w' ⟨rfl, rfl⟩
    go_wp2
    go_ret2
    exact ⟨_, by rw [HR.out]; rfl, by rw [HR.out]; exact Own.nil _ _ _, Below.refl _ _⟩
  by_cases hvy : vld ys = true
  case neg =>
    have hvf : vld ys = false := by simpa using hvy
    have HR := Lib.hid (show res2 xs ys (vl B32 xs + vl B32 ys) = ([], 30) by rw [res2, if_neg (fun h => hvy h.2)])
    rw [hvx] at cV
    rw [hvf] at cU
    have CV := Lib.hid cV
    have CU := Lib.hid cU
    clear cV cU hvx hvy hvf
    go_enter Tryz.func207, Tryz.ntmps207
    go_wp2_with fail
    refine (CV.out _ hra).mono ?_
    rintro e w' ⟨rfl, rfl⟩
    go_wp2_with fail
    refine (CU.out _ hrb).mono ?_
    rintro e w' ⟨rfl, rfl⟩
    go_wp2
    go_ret2
    exact ⟨_, by rw [HR.out]; rfl, by rw [HR.out]; exact Own.nil _ _ _, Below.refl _ _⟩
  have HR := Lib.hid (show res2 xs ys (vl B32 xs + vl B32 ys) = natRes (vl B32 xs + vl B32 ys) by rw [res2, if_pos ⟨hvx, hvy⟩])
  rw [hvx] at cV
  rw [hvy] at cU
  have CV := Lib.hid cV
  have CU := Lib.hid cU
  obtain ⟨i0, hi, hz0, hz1, hz2⟩ := info_parts info_u32
  have hsz : (Tryz.prog.info? 206).map (·.size) = some 1 := by rw [hi]; simp [hz1]
  clear cV cU hvx hvy
  by_cases hlt : xs.length < ys.length
  · have hmk : ∀ W : World, (Instr.makeSlice 189 (.int .i64 ((ys.length : Int) + 1)) (.int .i64 ((ys.length : Int) + 1))).run Tryz.prog W = .ok (.slice (some ⟨W.heap.size, 0, none⟩) (ys.length + 1) (ys.length + 1)) (W.alloc (.cells (madeCells (Value.int .u32 0).cells ((ys.length + 1) * 1)) 206)) := fun W => by
      have := run_make (P := Tryz.prog) W 189 206 i0 (.int .u32 0) Tryz.underlying189 hi hz0 .i64 .i64 ((ys.length : Int) + 1) ((ys.length : Int) + 1) (by omega) (by omega) (by rw [hz2]; omega) (by omega)
      rw [hz1] at this
      exact this
    have HSUM := Lib.hid (show vl B32 ys + vl B32 xs = vl B32 xs + vl B32 ys by omega)
    go_enter Tryz.func207, Tryz.ntmps207
    go_wp2_with fail
    refine (CV.out _ hra).mono ?_
    rintro e w' ⟨rfl, rfl⟩
    go_wp2_with fail
    refine (CU.out _ hrb).mono ?_
    rintro e w' ⟨rfl, rfl⟩
    have hBa := (Below.refl w.heap.size w).alloc (Nat.le_refl _) (.cells (madeCells #[Value.int .u32 0] (ys.length + 1)) 206)
    have fN : At .u32 (w.alloc (.cells (madeCells #[Value.int .u32 0] (ys.length + 1)) 206)) w.heap.size 206 [] (List.replicate (ys.length + 1) 0) [] := by
      have := at_made w (ys.length + 1)
      rwa [Nat.mul_one] at this
    obtain ⟨w2, hcp, fA, hG2⟩ := copy_new A' cb w.heap.size ys _ (hrb.below hBa) fN
    have hB2 : Below w.heap.size w w2 := grown_below hBa hG2 hBa.size (Nat.le_refl _)
    clear fN hG2 hBa
    have cA := addTo_any w.heap.size 0 (ys.length + 1) ca A 206 [] [] (ys ++ [0]) xs w2 fA rfl (lim_append.2 ⟨hy, lim_one.2 (by decide)⟩) hx (by simp; omega) (by simp; omega) (hra.below hB2) (fun h0 => hra.off h0 (Nat.le_refl _))
    have hl1 : (ys ++ [0]).length = ys.length + 1 := by simp
    rw [hl1] at cA
    clear hl1
    have CA := Lib.hid cA
    clear cA fA
    go_wp2_with fail
    refine CA.out.mono ?_
    rintro e w3 ⟨rfl, ⟨cur, c, hA3, hR3⟩, hG3⟩
    obtain ⟨e1, e2, e3⟩ := add_sum (xs := ys) (ys := xs) (cur := cur) (c := c) hy hx (by omega) hR3
    have hB3 : Below w.heap.size w w3 := grown_below hB2 hG3 hB2.size (Nat.le_refl _)
    have hO3 := own_of_at (B := w.heap.size) (cap := ys.length + 1) hA3 (Nat.le_refl _) (by rw [e3]; rfl) (by unfold maxLen; omega)
    rw [e3] at hO3
    have cF := fit_own _ _ cur w3 e2 (by rw [e3]; omega) hO3
    rw [e1, HSUM.out] at cF
    have CF := Lib.hid cF
    clear hA3 hR3 hG3 e1 e2 e3 hO3 cF CA hB2 hcp
    go_wp2_with fail
    refine CF.out.mono ?_
    rintro e w4 ⟨v, rfl, hO4, hB4⟩
    obtain ⟨nr, hnr⟩ : ∃ nr, natRes (vl B32 xs + vl B32 ys) = nr := ⟨_, rfl⟩
    rw [hnr] at hO4 HR
    rw [hnr]
    obtain ⟨nl, ne⟩ := nr
    have HO4 := Lib.hid hO4
    clear hO4 hnr CF
    have hBz := hB3.trans hB4
    go_wp2
    go_ret2
    exact ⟨_, by rw [HR.out]; rfl, by rw [HR.out]; exact HO4.out, hBz⟩
  · have hmk : ∀ W : World, (Instr.makeSlice 189 (.int .i64 ((xs.length : Int) + 1)) (.int .i64 ((xs.length : Int) + 1))).run Tryz.prog W = .ok (.slice (some ⟨W.heap.size, 0, none⟩) (xs.length + 1) (xs.length + 1)) (W.alloc (.cells (madeCells (Value.int .u32 0).cells ((xs.length + 1) * 1)) 206)) := fun W => by
      have := run_make (P := Tryz.prog) W 189 206 i0 (.int .u32 0) Tryz.underlying189 hi hz0 .i64 .i64 ((xs.length : Int) + 1) ((xs.length : Int) + 1) (by omega) (by omega) (by rw [hz2]; omega) (by omega)
      rw [hz1] at this
      exact this
    go_enter Tryz.func207, Tryz.ntmps207
    go_wp2_with fail
    refine (CV.out _ hra).mono ?_
    rintro e w' ⟨rfl, rfl⟩
    go_wp2_with fail
    refine (CU.out _ hrb).mono ?_
    rintro e w' ⟨rfl, rfl⟩
    have hBa := (Below.refl w.heap.size w).alloc (Nat.le_refl _) (.cells (madeCells #[Value.int .u32 0] (xs.length + 1)) 206)
    have fN : At .u32 (w.alloc (.cells (madeCells #[Value.int .u32 0] (xs.length + 1)) 206)) w.heap.size 206 [] (List.replicate (xs.length + 1) 0) [] := by
      have := at_made w (xs.length + 1)
      rwa [Nat.mul_one] at this
    obtain ⟨w2, hcp, fA, hG2⟩ := copy_new A ca w.heap.size xs _ (hra.below hBa) fN
    have hB2 : Below w.heap.size w w2 := grown_below hBa hG2 hBa.size (Nat.le_refl _)
    clear fN hG2 hBa
    have cA := addTo_any w.heap.size 0 (xs.length + 1) cb A' 206 [] [] (xs ++ [0]) ys w2 fA rfl (lim_append.2 ⟨hx, lim_one.2 (by decide)⟩) hy (by simp; omega) (by simp; omega) (hrb.below hB2) (fun h0 => hrb.off h0 (Nat.le_refl _))
    have hl1 : (xs ++ [0]).length = xs.length + 1 := by simp
    rw [hl1] at cA
    clear hl1
    have CA := Lib.hid cA
    clear cA fA
    go_wp2_with fail
    refine CA.out.mono ?_
    rintro e w3 ⟨rfl, ⟨cur, c, hA3, hR3⟩, hG3⟩
    obtain ⟨e1, e2, e3⟩ := add_sum (xs := xs) (ys := ys) (cur := cur) (c := c) hx hy (by omega) hR3
    have hB3 : Below w.heap.size w w3 := grown_below hB2 hG3 hB2.size (Nat.le_refl _)
    have hO3 := own_of_at (B := w.heap.size) (cap := xs.length + 1) hA3 (Nat.le_refl _) (by rw [e3]; rfl) (by unfold maxLen; omega)
    rw [e3] at hO3
    have cF := fit_own _ _ cur w3 e2 (by rw [e3]; omega) hO3
    rw [e1] at cF
    have CF := Lib.hid cF
    clear hA3 hR3 hG3 e1 e2 e3 hO3 cF CA hB2 hcp
    go_wp2_with fail
    refine CF.out.mono ?_
    rintro e w4 ⟨v, rfl, hO4, hB4⟩
    obtain ⟨nr, hnr⟩ : ∃ nr, natRes (vl B32 xs + vl B32 ys) = nr := ⟨_, rfl⟩
    rw [hnr] at hO4 HR
    rw [hnr]
    obtain ⟨nl, ne⟩ := nr
    have HO4 := Lib.hid hO4
    clear hO4 hnr CF
    have hBz := hB3.trans hB4
    go_wp2
    go_ret2
    exact ⟨_, by rw [HR.out]; rfl, by rw [HR.out]; exact HO4.out, hBz⟩
end Go.Proofs.YtddfigbpckhfbaaGreatDoor

namespace Go.Proofs.YtddfigbpckhfbaaGreatDoor
open Go.RowKit Go.Lib

/-- How many binary digits. -/
def bitsN (xs : List Nat) : Nat := if xs = [] then 0 else (xs.length - 1) * 32 + Lib.bitLen (xs.getD (xs.length - 1) 0)
set_option maxRecDepth 100000 in
set_option maxHeartbeats 1000000 in
theorem bits_any (A : Option Addr) (ca : Nat) (xs : List Nat) (w : World) (hx : Lim B32 xs) (hxn : xs.length ≤ 1000) (hra : Rd .u32 w A xs) :
    Calls Tryz.prog 158 #[.slice A xs.length ca] w fun e w' => e = .returned (.int .i64 (bitsN xs)) ∧ w = w' := by
  by_cases h0 : xs = []
  · have hb : ((xs.length : Int) == 0) = true := by rw [h0]; rfl
    have HR := Lib.hid (show bitsN xs = 0 by rw [bitsN, if_pos h0])
    clear h0
    go_enter Tryz.func158, Tryz.ntmps158
    go_wp2
    go_ret
    exact ⟨by rw [HR.out]; rfl, rfl⟩
  · have hl : 1 ≤ xs.length := List.length_pos_iff.2 h0
    have hb : ((xs.length : Int) == 0) = false := by rw [beq_eq_false_iff_ne]; omega
    obtain ⟨g, o, rfl, hc⟩ := hra (xs.length - 1) (by omega)
    obtain ⟨y, hye, hyk⟩ := lim32 hx (xs.length - 1) (by omega)
    rw [hye] at hc
    have HR := Lib.hid (show bitsN xs = (xs.length - 1) * 32 + Lib.bitLen y by rw [bitsN, if_neg h0, getD_of (by omega), hye])
    have cL := Tryz.bits_Len32 (y : Int) w (by omega) (by omega)
    rw [show ((y : Int)).toNat = y from rfl] at cL
    have hbl : Lib.bitLen y ≤ 64 := by
      by_cases hy0 : y = 0
      · subst hy0; decide
      · have e : Lib.bitLen y = Lib.bitLenAux 32 y := Lib.bitLenAux_fuel 32 y hyk 64 (by omega)
        have := (bitLenAux_bounds 32 y hyk hy0).2.1
        omega
    obtain ⟨b, hbb⟩ : ∃ b, Lib.bitLen y = b := ⟨_, rfl⟩
    rw [hbb] at cL hbl HR
    have CL := Lib.hid cL
    clear cL hye h0 hbb
    go_enter Tryz.func158, Tryz.ntmps158
    go_wp2_with fail
    refine CL.out.mono ?_
    rintro e w' ⟨rfl, rfl⟩
    go_wp2
    go_ret
    exact ⟨by rw [HR.out]; exact congrArg Ending.returned (vint (by omega)), rfl⟩
end Go.Proofs.YtddfigbpckhfbaaGreatDoor

namespace Go.Proofs.YtddfigbpckhfbaaGreatDoor
open Go.RowKit Go.Lib

/-- What Shl answers. -/
noncomputable def shlRes (xs : List Nat) (k : Int) : List Nat × Int :=
  if vld xs = true then (if k < 0 then ([], 1) else if xs = [] then ([], 0) else if 8192 - (bitsN xs : Int) < k then ([], 3) else (dig B32 (vl B32 xs * 2 ^ k.toNat), 0)) else ([], 30)
theorem shl_value {xs As : List Nat} {low r k : Nat} (hv : vl B32 As = vl B32 xs * 2 ^ r) (hk : k = 32 * low + r) : vl B32 (List.replicate low 0 ++ As) = vl B32 xs * 2 ^ k := by
  rw [vl_append, vl_zeros, Nat.zero_add, List.length_replicate, hv, hk, Nat.pow_add, Nat.pow_mul]
  show (2 ^ 32) ^ low * (vl B32 xs * 2 ^ r) = _
  exact Nat.mul_left_comm _ _ _

set_option maxRecDepth 100000 in
set_option maxHeartbeats 4000000 in
theorem shl_any (A : Option Addr) (ca : Nat) (xs : List Nat) (k : Int) (w : World) (hx : Lim B32 xs) (hxn : xs.length ≤ 1000) (hk1 : -9223372036854775808 ≤ k) (hk2 : k ≤ 9223372036854775807) (hra : Rd .u32 w A xs) :
    Calls Tryz.prog 204 #[.slice A xs.length ca, .int .i64 k] w (RowErr w.heap.size w (shlRes xs k)) := by
  have cV := valid_any A ca xs w (by omega) hx hra
  by_cases hvx : vld xs = true
  case neg =>
    have hvf : vld xs = false := by simpa using hvx
    have HR := Lib.hid (show shlRes xs k = ([], 30) by rw [shlRes, if_neg hvx])
    rw [hvf] at cV
    have CV := Lib.hid cV
    clear cV hvx hvf
    go_enter Tryz.func204, Tryz.ntmps204
    go_wp2_with fail
    refine CV.out.mono ?_
    rintro e w' ⟨rfl, rfl⟩
    go_wp2
    go_ret2
    exact ⟨_, by rw [HR.out]; rfl, by rw [HR.out]; exact Own.nil _ _ _, Below.refl _ _⟩
  rw [hvx] at cV
  have CV := Lib.hid cV
  clear cV
  by_cases hk0 : k < 0
  · have HR := Lib.hid (show shlRes xs k = ([], 1) by rw [shlRes, if_pos hvx, if_pos hk0])
    clear hvx
    go_enter Tryz.func204, Tryz.ntmps204
    go_wp2_with fail
    refine CV.out.mono ?_
    rintro e w' ⟨rfl, rfl⟩
    go_wp2
    go_ret2
    exact ⟨_, by rw [HR.out]; rfl, by rw [HR.out]; exact Own.nil _ _ _, Below.refl _ _⟩
  obtain ⟨kn, rfl⟩ : ∃ kn : Nat, k = kn := ⟨k.toNat, by omega⟩
  by_cases h0 : xs = []
  · have HR := Lib.hid (show shlRes xs (kn : Int) = ([], 0) by rw [shlRes, if_pos hvx, if_neg hk0, if_pos h0])
    have hb : ((xs.length : Int) == 0) = true := by rw [h0]; rfl
    clear hvx h0
    go_enter Tryz.func204, Tryz.ntmps204
    go_wp2_with fail
    refine CV.out.mono ?_
    rintro e w' ⟨rfl, rfl⟩
    go_wp2
    go_ret2
    exact ⟨_, by rw [HR.out]; rfl, by rw [HR.out]; exact Own.nil _ _ _, Below.refl _ _⟩
  have hl : 1 ≤ xs.length := List.length_pos_iff.2 h0
  have hb : ((xs.length : Int) == 0) = false := by rw [beq_eq_false_iff_ne]; omega
  have hxl : xs.length ≤ 256 := (vld_iff.1 hvx).1
  have cB := bits_any A ca xs w hx hxn hra
  have hbn : bitsN xs ≤ 10000 := by
    rw [bitsN, if_neg h0]
    have hy := getD_lt hx (by decide) (xs.length - 1)
    by_cases hy0 : xs.getD (xs.length - 1) 0 = 0
    · rw [hy0]
      have : Lib.bitLen 0 = 0 := by decide
      omega
    · have e : Lib.bitLen (xs.getD (xs.length - 1) 0) = Lib.bitLenAux 32 (xs.getD (xs.length - 1) 0) := Lib.bitLenAux_fuel 32 _ hy 64 (by omega)
      have := (bitLenAux_bounds 32 _ hy hy0).2.1
      omega
  by_cases hbig : 8192 - (bitsN xs : Int) < (kn : Int)
  · have HR := Lib.hid (show shlRes xs (kn : Int) = ([], 3) by rw [shlRes, if_pos hvx, if_neg hk0, if_neg h0, if_pos hbig])
    obtain ⟨bn, hbe⟩ : ∃ bn, bitsN xs = bn := ⟨_, rfl⟩
    rw [hbe] at cB hbn hbig
    have CB := Lib.hid cB
    clear hvx h0 cB hbe
    go_enter Tryz.func204, Tryz.ntmps204
    go_wp2_with fail
    refine CV.out.mono ?_
    rintro e w' ⟨rfl, rfl⟩
    go_wp2_with fail
    refine CB.out.mono ?_
    rintro e w' ⟨rfl, rfl⟩
    go_wp2
    go_ret2
    exact ⟨_, by rw [HR.out]; rfl, by rw [HR.out]; exact Own.nil _ _ _, Below.refl _ _⟩
  have HR := Lib.hid (show shlRes xs (kn : Int) = (dig B32 (vl B32 xs * 2 ^ kn), 0) by rw [shlRes, if_pos hvx, if_neg hk0, if_neg h0, if_neg hbig]; rfl)
  obtain ⟨bn, hbe⟩ : ∃ bn, bitsN xs = bn := ⟨_, rfl⟩
  rw [hbe] at cB hbn hbig
  have CB := Lib.hid cB
  obtain ⟨low, hlow⟩ : ∃ low, kn / 32 = low := ⟨_, rfl⟩
  obtain ⟨r, hr⟩ : ∃ r, kn % 32 = r := ⟨_, rfl⟩
  have hlowi : (kn : Int) / 32 = (low : Int) := by omega
  have hri : (kn : Int) % 32 = (r : Int) := by omega
  have hr32 : r < 32 := by omega
  have hlb : low ≤ 256 := by omega
  have HK := Lib.hid (show kn = 32 * low + r by omega)
  obtain ⟨i0, hi, hz0, hz1, hz2⟩ := info_parts info_u32
  have hmk : ∀ W : World, (Instr.makeSlice 189 (.int .i64 ((low : Int) + (xs.length : Int) + 1)) (.int .i64 ((low : Int) + (xs.length : Int) + 1))).run Tryz.prog W = .ok (.slice (some ⟨W.heap.size, 0, none⟩) (low + xs.length + 1) (low + xs.length + 1)) (W.alloc (.cells (madeCells (Value.int .u32 0).cells ((low + xs.length + 1) * 1)) 206)) := fun W => by
    have := run_make (P := Tryz.prog) W 189 206 i0 (.int .u32 0) Tryz.underlying189 hi hz0 .i64 .i64 ((low : Int) + (xs.length : Int) + 1) ((low : Int) + (xs.length : Int) + 1) (by omega) (by omega) (by rw [hz2]; omega) (by omega)
    rw [hz1, show ((low : Int) + (xs.length : Int) + 1).toNat = low + xs.length + 1 by omega] at this
    exact this
  have HXN := Lib.hid h0
  clear hvx h0 cB hbe hlow hr hi hz0 hz1 hz2
  go_enter Tryz.func204, Tryz.ntmps204
  go_wp2_with fail
  refine CV.out.mono ?_
  rintro e w' ⟨rfl, rfl⟩
  go_wp2_with fail
  refine CB.out.mono ?_
  rintro e w' ⟨rfl, rfl⟩
  clear CV CB
  go_wp2_with fail
  rw [show low + xs.length + 1 - low = xs.length + 1 by omega]
  have fN : At .u32 (w.alloc (.cells (madeCells #[Value.int .u32 0] (low + xs.length + 1)) 206)) w.heap.size 206 (nums .u32 (List.replicate low 0)) (List.replicate (xs.length + 1) 0) [] := by
    have := at_made w (low + xs.length + 1)
    rw [Nat.mul_one] at this
    refine this.recut ?_
    rw [List.nil_append, List.append_nil, List.append_nil, ← nums_append, List.replicate_append_replicate, Nat.add_assoc]
  have hBa := (Below.refl w.heap.size w).alloc (Nat.le_refl _) (.cells (madeCells #[Value.int .u32 0] (low + xs.length + 1)) 206)
  have c1 := fun cap => shiftUp_any w.heap.size low cap ca r A 206 (nums .u32 (List.replicate low 0)) [] (List.replicate (xs.length + 1) 0) xs _ fN (by rw [nums_len, List.length_replicate]) (lim_zeros (by decide) _) hx (by simp; omega) (by simp) hr32 (hra.below hBa) (fun h => hra.off h (Nat.le_refl _))
  rw [List.length_replicate] at c1
  refine (c1 _).mono ?_
  clear c1 fN
  rintro e W2 ⟨rfl, ⟨cur, c, hS, hl1, _, hA1⟩, hG1⟩
  rw [List.length_replicate] at hl1 hA1
  rw [putTop, if_pos (Nat.lt_succ_self _)] at hA1
  obtain ⟨b1, b2, b3⟩ := shu_more hS hl1 (Nat.pow_le_pow_right (by omega) (show r ≤ 32 by omega) : 2 ^ r ≤ 2 ^ 32)
  obtain ⟨As, hAs⟩ : ∃ As, cur.set xs.length c = As := ⟨_, rfl⟩
  rw [hAs] at hA1 b1 b2 b3
  have hB2 : Below w.heap.size w W2 := grown_below hBa hG1 hBa.size (Nat.le_refl _)
  have fF : At .u32 W2 w.heap.size 206 [] (List.replicate low 0 ++ As) [] := hA1.recut (by rw [List.nil_append, List.append_nil, List.append_nil, nums_append])
  have hll : (List.replicate low 0 ++ As).length = low + xs.length + 1 := by rw [List.length_append, List.length_replicate, b2]; omega
  have hO := own_of_at (B := w.heap.size) (cap := low + xs.length + 1) fF (Nat.le_refl _) (by rw [hll]; rfl) (by unfold maxLen; omega)
  rw [hll] at hO
  have cM := trim_own _ _ _ W2 (lim_append.2 ⟨lim_zeros (by decide) low, b1⟩) (by rw [hll]; omega) hO
  rw [shl_value b3 HK.out] at cM
  have CM := Lib.hid cM
  clear cM hO hll fF hA1 hAs hS hl1 hG1 b1 b2 b3 hBa
  go_wp2_with fail
  refine CM.out.mono ?_
  rintro e w' ⟨⟨v', rfl, hO4, _⟩, rfl⟩
  have HO4 := Lib.hid hO4
  clear hO4 CM
  go_wp2
  go_ret2
  exact ⟨_, by rw [HR.out]; rfl, by rw [HR.out]; exact HO4.out, hB2⟩
end Go.Proofs.YtddfigbpckhfbaaGreatDoor

namespace Go.Proofs.YtddfigbpckhfbaaGreatDoor
open Go.RowKit Go.Lib

/-- The state of the inner loop of the product. -/
structure MulIn (B : Nat) (base cur : List Nat) (i j c x : Nat) (ys : List Nat) : Prop where
  len : cur.length = base.length
  lim : Lim B cur
  hc : c < B
  rest : cur.drop (i + ys.length) = base.drop (i + ys.length)
  eq : vl B cur + B ^ (i + j) * c = vl B base + B ^ i * (x * vl B (ys.take j))
theorem mulIn_start {B : Nat} (hB : 0 < B) {base : List Nat} (h : Lim B base) (i x : Nat) (ys : List Nat) : MulIn B base base i 0 0 x ys := ⟨rfl, h, hB, rfl, by simp [vl]⟩
theorem mulIn_step {B : Nat} {base cur ys : List Nat} {i j c x : Nat} (h : MulIn B base cur i j c x ys) (hx : x < B) (hy : Lim B ys) (hj : j < ys.length) (hi : i + j < cur.length) (z : Nat) (hz : z = c + (x * ys[j] + cur[i + j])) :
    MulIn B base (cur.set (i + j) (z % B)) i (j + 1) (z / B) x ys := by
  have b1 := lim_get hy j hj
  have b2 := lim_get h.lim (i + j) hi
  have hB : 0 < B := by omega
  refine ⟨by rw [List.length_set, h.len], lim_set h.lim (Nat.mod_lt _ hB), ?_, ?_, ?_⟩
  · apply Nat.div_lt_of_lt_mul
    have h1 : x * ys[j] ≤ (B - 1) * (B - 1) := Nat.mul_le_mul (by omega) (by omega)
    have h2 : (B - 1) * (B - 1) + (B - 1) + (B - 1) < B * B := by
      obtain ⟨b, rfl⟩ : ∃ b, B = b + 1 := ⟨B - 1, by omega⟩
      simp only [Nat.add_sub_cancel, Nat.add_mul, Nat.mul_add, Nat.mul_one, Nat.one_mul]
      omega
    have h3 := h.hc
    omega
  · rw [List.drop_set_of_lt (by omega), h.rest]
  · have e1 := vl_set B cur (i + j) (z % B) hi
    have e2 := h.eq
    have hd := digit_step (B := B) (P := B ^ (i + j)) (z := z)
    have e3 := congrArg (B ^ (i + j) * ·) hz
    have e4 : B ^ i * (x * (B ^ j * ys[j])) = B ^ (i + j) * (x * ys[j]) := by rw [Nat.pow_add, Nat.mul_left_comm x, Nat.mul_assoc]
    rw [vl_take_succ B ys j hj, show i + (j + 1) = (i + j) + 1 by omega, Nat.pow_succ]
    simp only [Nat.mul_add] at e3 ⊢
    rw [e4]
    omega
/-- One row of the product more. -/
theorem mul_row {B : Nat} {base cur xs ys : List Nat} {i c x : Nat} (h : MulIn B base cur i ys.length c x ys) (hv : vl B base = vl B (xs.take i) * vl B ys) (hi : i < xs.length) (hx : xs[i] = x) (hl : base.length = xs.length + ys.length)
    (hz : base.drop (i + ys.length) = List.replicate (xs.length - i) 0) :
    vl B (cur.set (i + ys.length) c) = vl B (xs.take (i + 1)) * vl B ys ∧ (cur.set (i + ys.length) c).drop (i + 1 + ys.length) = List.replicate (xs.length - (i + 1)) 0 ∧ Lim B (cur.set (i + ys.length) c) := by
  have hlen : i + ys.length < cur.length := by have := h.len; omega
  have h0 : cur[i + ys.length] = 0 := by
    have a := drop_get cur (i + ys.length) hlen
    rw [h.rest, hz, show xs.length - i = (xs.length - (i + 1)) + 1 by omega, List.replicate_succ] at a
    exact (List.cons.inj a).1.symm
  refine ⟨?_, ?_, lim_set h.lim h.hc⟩
  · have e1 := vl_set B cur (i + ys.length) c hlen
    have e2 := h.eq
    rw [h0, Nat.mul_zero, Nat.add_zero] at e1
    rw [vl_take_all (Nat.le_refl _), hv] at e2
    rw [e1, e2, vl_take_succ B xs i hi, hx, Nat.add_mul, Nat.mul_assoc]
  · rw [List.drop_set_of_lt (by omega), show i + 1 + ys.length = (i + ys.length) + 1 by omega, ← List.drop_drop, h.rest, hz, List.drop_replicate]
    congr 1
theorem mul_fits {x y d c : Nat} (hx : x < 4294967296) (hy : y < 4294967296) (hd : d < 4294967296) (hc : c < 4294967296) : ∃ p : Nat, x * y = p ∧ (x : Int) * (y : Int) = (p : Int) ∧ (p : Int) + (d : Int) + (c : Int) ≤ 18446744073709551615 := by
  have h : x * y ≤ 4294967295 * 4294967295 := Nat.mul_le_mul (by omega) (by omega)
  exact ⟨x * y, rfl, (Int.natCast_mul _ _).symm, by omega⟩

set_option maxRecDepth 100000 in
set_option maxHeartbeats 4000000 in
theorem mul_any (A A' : Option Addr) (ca cb : Nat) (xs ys : List Nat) (w : World) (hx : Lim B32 xs) (hy : Lim B32 ys) (hxn : xs.length ≤ 1000) (hyn : ys.length ≤ 1000) (hra : Rd .u32 w A xs) (hrb : Rd .u32 w A' ys) :
    Calls Tryz.prog 201 #[.slice A xs.length ca, .slice A' ys.length cb] w (RowErr w.heap.size w (res2 xs ys (vl B32 xs * vl B32 ys))) := by
  have cV := fun (W : World) (h : Rd .u32 W A xs) => valid_any A ca xs W (by omega) hx h
  have cU := fun (W : World) (h : Rd .u32 W A' ys) => valid_any A' cb ys W (by omega) hy h
  by_cases hvx : vld xs = true
  case neg =>
    have hvf : vld xs = false := by simpa using hvx
    have HR := Lib.hid (show res2 xs ys (vl B32 xs * vl B32 ys) = ([], 30) by rw [res2, if_neg (fun h => hvx h.1)])
    rw [hvf] at cV
    have CV := Lib.hid cV
    clear cV cU hvx hvf
    go_enter Tryz.func201, Tryz.ntmps201
    go_wp2_with fail
    refine (CV.out _ hra).mono ?_
    rintro e w' ⟨rfl, rfl⟩
    go_wp2
    go_ret2
    exact ⟨_, by rw [HR.out]; rfl, by rw [HR.out]; exact Own.nil _ _ _, Below.refl _ _⟩
  by_cases hvy : vld ys = true
  case neg =>
    have hvf : vld ys = false := by simpa using hvy
    have HR := Lib.hid (show res2 xs ys (vl B32 xs * vl B32 ys) = ([], 30) by rw [res2, if_neg (fun h => hvy h.2)])
    rw [hvx] at cV
    rw [hvf] at cU
    have CV := Lib.hid cV
    have CU := Lib.hid cU
    clear cV cU hvx hvy hvf
    go_enter Tryz.func201, Tryz.ntmps201
    go_wp2_with fail
    refine (CV.out _ hra).mono ?_
    rintro e w' ⟨rfl, rfl⟩
    go_wp2_with fail
    refine (CU.out _ hrb).mono ?_
    rintro e w' ⟨rfl, rfl⟩
    go_wp2
    go_ret2
    exact ⟨_, by rw [HR.out]; rfl, by rw [HR.out]; exact Own.nil _ _ _, Below.refl _ _⟩
  have HR := Lib.hid (show res2 xs ys (vl B32 xs * vl B32 ys) = natRes (vl B32 xs * vl B32 ys) by rw [res2, if_pos ⟨hvx, hvy⟩])
  rw [hvx] at cV
  rw [hvy] at cU
  have CV := Lib.hid cV
  have CU := Lib.hid cU
  obtain ⟨i0, hi, hz0, hz1, hz2⟩ := info_parts info_u32
  have hmk : ∀ W : World, (Instr.makeSlice 189 (.int .i64 ((xs.length : Int) + (ys.length : Int))) (.int .i64 ((xs.length : Int) + (ys.length : Int)))).run Tryz.prog W = .ok (.slice (some ⟨W.heap.size, 0, none⟩) (xs.length + ys.length) (xs.length + ys.length)) (W.alloc (.cells (madeCells (Value.int .u32 0).cells ((xs.length + ys.length) * 1)) 206)) := fun W => by
    have := run_make (P := Tryz.prog) W 189 206 i0 (.int .u32 0) Tryz.underlying189 hi hz0 .i64 .i64 ((xs.length : Int) + (ys.length : Int)) ((xs.length : Int) + (ys.length : Int)) (by omega) (by omega) (by rw [hz2]; omega) (by omega)
    rw [hz1, show ((xs.length : Int) + (ys.length : Int)).toNat = xs.length + ys.length by omega] at this
    exact this
  clear cV cU hvx hvy hi hz0 hz1 hz2
  go_enter Tryz.func201, Tryz.ntmps201
  go_wp2_with fail
  refine (CV.out _ hra).mono ?_
  rintro e w' ⟨rfl, rfl⟩
  go_wp2_with fail
  refine (CU.out _ hrb).mono ?_
  rintro e w' ⟨rfl, rfl⟩
  clear CV CU
  have fN : At .u32 (w.alloc (.cells (madeCells #[Value.int .u32 0] (xs.length + ys.length)) 206)) w.heap.size 206 [] (List.replicate (xs.length + ys.length) 0) [] := by
    have := at_made w (xs.length + ys.length)
    rwa [Nat.mul_one] at this
  have hBa := (Below.refl w.heap.size w).alloc (Nat.le_refl _) (.cells (madeCells #[Value.int .u32 0] (xs.length + ys.length)) 206)
  go_wp2
  obtain ⟨g, hg⟩ : ∃ g, w.heap.size = g := ⟨_, rfl⟩
  have hgB : w.heap.size ≤ g := by omega
  have HG := Lib.hid hg
  rw [hg] at fN
  rw [hg]
  go_loopw [28] (fun i wr => ∃ (k : Nat) (cur : List Nat), k ≤ xs.length ∧ i = .int .i64 k ∧ At .u32 wr g 206 [] cur [] ∧ cur.length = xs.length + ys.length ∧ Lim B32 cur ∧ vl B32 cur = vl B32 (xs.take k) * vl B32 ys ∧ cur.drop (k + ys.length) = List.replicate (xs.length - k) 0 ∧ Below w.heap.size w wr) (fun i _ => xs.length - (RowKit.intOf i).toNat)
  case atStart => exact ⟨0, _, Nat.zero_le _, rfl, fN, List.length_replicate, lim_zeros (by decide) _, by rw [vl_zeros]; simp [vl], by rw [List.drop_replicate]; congr 1; omega, hBa⟩
  case round =>
    clear fN hBa hg
    obtain ⟨k, cur, hk, rfl, fA, hlen, hL, hv, hz, hB⟩ := hrel
    have HLEN := Lib.hid hlen
    have HV := Lib.hid hv
    have HZ := Lib.hid hz
    clear hlen hv hz
    by_cases hlt : k < xs.length
    · obtain ⟨ga, oa, rfl, hca⟩ := (hra.below hB) k hlt
      obtain ⟨x, hxe, hxk⟩ := lim32 hx k hlt
      rw [hxe] at hca
      have HXE := Lib.hid hxe
      clear hxe
      go_wp2
      obtain ⟨wo, rfl⟩ : ∃ wo : World, wo = wr := ⟨wr, rfl⟩
      go_loopw [9, 35] (fun c j wi => ∃ (m z : Nat) (cur' : List Nat), m ≤ ys.length ∧ j = .int .i64 m ∧ c = .int .u64 z ∧ At .u32 wi g 206 [] cur' [] ∧ MulIn B32 cur cur' k m z x ys ∧ Below w.heap.size w wi) (fun _ j _ => ys.length - (RowKit.intOf j).toNat)
      case atStart => exact ⟨0, 0, cur, Nat.zero_le _, rfl, rfl, fA, mulIn_start (by decide) hL k x ys, hB⟩
      case round =>
        clear fA hB
        obtain ⟨m, z, cur', hm, rfl, rfl, fA, hM, hB⟩ := hrel
        have hzb : z < 4294967296 := hM.hc
        have hlc : cur'.length = xs.length + ys.length := by rw [hM.len, HLEN.out]
        by_cases hmt : m < ys.length
        · obtain ⟨gb, ob, rfl, hcb⟩ := (hrb.below hB) m hmt
          obtain ⟨y, hye, hyk⟩ := lim32 hy m hmt
          rw [hye] at hcb
          have hkm : k + m < cur'.length := by omega
          obtain ⟨d, hde, hdk⟩ := lim32 hM.lim (k + m) hkm
          have hcd := fA.cell (o := 0) rfl (k + m) hkm
          rw [Nat.zero_add, hde] at hcd
          have hfz := fA.frozen (k + m)
          obtain ⟨p, hp, hpi, hpb⟩ := mul_fits hxk hyk hdk hzb
          have hS := mulIn_step (B := 4294967296) hM hxk hy hmt hkm (z + (p + d)) (by rw [hye, hde, hp])
          have hA1 := fA.set (o := 0) rfl (k + m) ((z + (p + d)) % 4294967296) hkm
          rw [Nat.zero_add] at hA1
          have HS := Lib.hid hS
          have HA1 := Lib.hid hA1
          have hkml : (k : Int) + (m : Int) < (xs.length : Int) + (ys.length : Int) := by omega
          clear hye hde hp hS hA1 hM hlc hkm fA
          go_wp2
          clear hpi
          go_roundw
          case rel => exact ⟨m + 1, (z + (p + d)) / 4294967296, _, hmt, by go_num, vint (by omega), by rw [show ((z : Int) + ((p : Int) + (d : Int))) % 4294967296 = (((z + (p + d)) % 4294967296 : Nat) : Int) by omega]; exact HA1.out, HS.out, hB.setCell hgB _⟩
          case measure => simp [RowKit.intOf]; omega
        · obtain rfl : m = ys.length := by omega
          obtain ⟨r1, r2, r3⟩ := mul_row hM HV.out hlt HXE.out HLEN.out HZ.out
          have hkm : k + ys.length < cur'.length := by omega
          have hcd := fA.cell (o := 0) rfl (k + ys.length) hkm
          rw [Nat.zero_add] at hcd
          obtain ⟨u, hu⟩ : ∃ u, cur'[k + ys.length] = u := ⟨_, rfl⟩
          rw [hu] at hcd
          have hfz := fA.frozen (k + ys.length)
          have hA1 := fA.set (o := 0) rfl (k + ys.length) z hkm
          rw [Nat.zero_add] at hA1
          have hl2 : (cur'.set (k + ys.length) z).length = xs.length + ys.length := by rw [List.length_set, hlc]
          have R1 := Lib.hid r1
          have R2 := Lib.hid r2
          have HA1 := Lib.hid hA1
          have HL2 := Lib.hid hl2
          have hkml : (k : Int) + (ys.length : Int) < (xs.length : Int) + (ys.length : Int) := by omega
          clear r1 r2 hA1 hl2 hM hlc hkm fA hu
          go_wp2
          go_roundw
          case rel => exact ⟨k + 1, _, hlt, by go_num, HA1.out, HL2.out, r3, R1.out, R2.out, hB.setCell hgB _⟩
          case measure => simp [RowKit.intOf]; omega
    · obtain rfl : k = xs.length := by omega
      have hO := own_of_at (B := w.heap.size) (cap := xs.length + ys.length) fA hgB (by rw [HLEN.out]; rfl) (by unfold maxLen; omega)
      rw [HLEN.out] at hO
      have cF := fit_own _ _ cur wr hL (by rw [HLEN.out]; omega) hO
      have hv := HV.out
      rw [vl_take_all (Nat.le_refl _)] at hv
      rw [hv] at cF
      have CF := Lib.hid cF
      clear cF hO hv fA
      go_wp2_with fail
      refine CF.out.mono ?_
      rintro e w4 ⟨v, rfl, hO4, hB4⟩
      obtain ⟨nr, hnr⟩ : ∃ nr, natRes (vl B32 xs * vl B32 ys) = nr := ⟨_, rfl⟩
      rw [hnr] at hO4 HR
      rw [hnr]
      obtain ⟨nl, ne⟩ := nr
      have HO4 := Lib.hid hO4
      clear hO4 hnr CF
      have hBz := hB.trans hB4
      go_wp2
      go_ret2
      exact ⟨_, by rw [HR.out]; rfl, by rw [HR.out]; exact HO4.out, hBz⟩
end Go.Proofs.YtddfigbpckhfbaaGreatDoor

namespace Go.Proofs.YtddfigbpckhfbaaGreatDoor
open Go.RowKit Go.Lib

theorem fits_yes (p : Int) (w : World) (h0 : 0 ≤ p) (h2 : p ≤ 200) : Calls Tryz.prog 246 #[.int .i64 p] w fun e w' => e = .returned (.bool true) ∧ w = w' := by
  go_enter Tryz.func246, Tryz.ntmps246
  go_wp2
  go_ret
  exact ⟨rfl, rfl⟩
/-- A natural's lowest 64 binary digits, as limbs. -/
def low64 (xs : List Nat) : Nat := vl B32 (xs.take 2)
theorem low64_mod {xs : List Nat} (hx : Lim B32 xs) : low64 xs = vl B32 xs % 18446744073709551616 := by
  unfold low64
  by_cases h : 2 ≤ xs.length
  · have h1 := vl_take_drop B32 xs 2 h
    have h2 := vl_lt (lim_take hx 2)
    rw [List.length_take, Nat.min_eq_left h] at h2
    have e : B32 ^ 2 = 18446744073709551616 := by decide
    rw [e] at h1 h2
    rw [h1, Nat.add_mul_mod_self_left, Nat.mod_eq_of_lt h2]
  · have h2 := vl_lt hx
    rw [List.take_of_length_le (by omega)]
    rw [Nat.mod_eq_of_lt]
    have h3 : B32 ^ xs.length ≤ B32 ^ 2 := Nat.pow_le_pow_right (by decide) (by omega)
    have e : B32 ^ 2 = 18446744073709551616 := by decide
    omega
theorem or_lo (x : Nat) (hx : x < 4294967296) : bits .or .u64 0 (x : Int) = (x : Int) := by
  have h := u64_or_nat 0 x (by omega) (by omega)
  rwa [Nat.zero_or] at h
theorem or_hi {z x : Nat} (hz : z < 4294967296) (hx : x < 4294967296) : bits .or .u64 (x : Int) ((z : Int) * 4294967296) = (x : Int) + (z : Int) * 4294967296 := by
  have h := u64_or_nat x (z * 4294967296) (by omega) (by omega)
  rw [Nat.or_comm, show z * 4294967296 ||| x = z * 4294967296 + x from or_low (k := 32) hx] at h
  rw [Int.natCast_mul, Int.natCast_add, Int.natCast_mul] at h
  rw [Int.add_comm]
  exact h
set_option maxRecDepth 100000 in
set_option maxHeartbeats 1000000 in
theorem word_any (A : Option Addr) (ca : Nat) (xs : List Nat) (w : World) (hx : Lim B32 xs) (hxn : xs.length ≤ 1000) (hcap : xs.length ≤ ca) (_hcm : ca ≤ maxLen) (hr : Rd .u32 w A xs) :
    Calls Tryz.prog 161 #[.slice A xs.length ca] w fun e w' => e = .returned (.int .u64 (low64 xs)) ∧ w = w' := by
  obtain ⟨n, hn⟩ : ∃ n, min 2 xs.length = n := ⟨_, rfl⟩
  have hni : min (2 : Int) (xs.length : Int) = (n : Int) := by omega
  have hn2 : n ≤ 2 := by omega
  have hnl : n ≤ xs.length := by omega
  have hnc : n ≤ ca := by omega
  have HE := Lib.hid (show low64 xs = vl B32 (xs.take n) by
    unfold low64
    by_cases h : 2 ≤ xs.length
    · rw [show n = 2 by omega]
    · rw [List.take_of_length_le (by omega), List.take_of_length_le (by omega)])
  clear hn
  go_enter Tryz.func161, Tryz.ntmps161
  go_wp2
  go_loop [3, 12] (fun v i => ∃ k : Nat, k ≤ n ∧ i = .int .i64 k ∧ v = .int .u64 (vl B32 (xs.take k))) (fun _ i => n - (RowKit.intOf i).toNat)
  case atStart => exact ⟨0, Nat.zero_le _, rfl, rfl⟩
  case round =>
    obtain ⟨k, hk, rfl, rfl⟩ := hrel
    by_cases hlt : k < n
    · have hkl : k < xs.length := by omega
      obtain ⟨g, o, rfl, hc⟩ := hr k hkl
      obtain ⟨x, hxe, hxk⟩ := lim32 hx k hkl
      rw [hxe] at hc
      have HV := Lib.hid (vl_take_succ B32 xs k hkl)
      rw [hxe] at HV
      clear hxe
      rcases (by omega : k = 0 ∨ k = 1) with rfl | rfl
      · have hor := or_lo x hxk
        rw [Nat.add_zero] at hc
        rw [List.take_zero, vl_nil]
        go_wp2
        clear hor
        go_round
        case rel => exact ⟨1, by omega, rfl, by rw [HV.out, List.take_zero, vl_nil]; exact vint (by simp)⟩
        case measure => simp [RowKit.intOf]; omega
      · have hy := vl_lt (lim_take hx 1)
        rw [List.length_take, Nat.min_eq_left (by omega), Nat.pow_one] at hy
        obtain ⟨y, hye⟩ : ∃ y, vl B32 (xs.take 1) = y := ⟨_, rfl⟩
        rw [hye] at hy HV
        rw [hye]
        have hor := or_hi hxk hy
        clear hye
        go_wp2
        clear hor
        go_round
        case rel => exact ⟨2, by omega, rfl, by rw [HV.out]; exact vint (by simp; omega)⟩
        case measure => simp [RowKit.intOf]; omega
    · obtain rfl : k = n := by omega
      go_wp2
      go_ret
      exact ⟨by rw [HE.out]; rfl, rfl⟩
end Go.Proofs.YtddfigbpckhfbaaGreatDoor

namespace Go.Proofs.YtddfigbpckhfbaaGreatDoor
open Go.RowKit Go.Lib

theorem Own.slice_ {κ : IntKind} {w : World} {B : Nat} {t : TypeId} {v : Value} {xs : List Nat} (h : Own κ w B t v xs) : ∃ A cap, v = .slice A xs.length cap ∧ (A = none → cap = 0) := by
  rcases h.forms with ⟨rfl, rfl⟩ | ⟨g, cap, rfl, _, _, _⟩
  · exact ⟨none, 0, rfl, fun _ => rfl⟩
  · exact ⟨_, cap, rfl, fun e => by cases e⟩
theorem len_dig {n : Nat} (h : n < B32 ^ 256) : (dig B32 n).length ≤ 256 := (dig_len_le (by decide) n 256).2 h
theorem vld_dig {n : Nat} (h : n < B32 ^ 256) : vld (dig B32 n) = true := vld_iff.2 ⟨len_dig h, (dig_norm (by decide) n).2⟩
theorem res2_ok {xs ys : List Nat} {n : Nat} (hx : vld xs = true) (hy : vld ys = true) (h : n < B32 ^ 256) : res2 xs ys n = (dig B32 n, 0) := by
  rw [res2, if_pos ⟨hx, hy⟩, natRes, if_pos (len_dig h)]
theorem lim_dig (n : Nat) : Lim B32 (dig B32 n) := (dig_norm (by decide) n).1
end Go.Proofs.YtddfigbpckhfbaaGreatDoor
