/- Contracts of layer 2: guess. -/
import Derived.Outline
import Derived.Test.YtflnackpkcldjaaDoorNatJ
namespace Go.Proofs.YtflnackpkcldjaaDoor
open Go.RowKit Go.Lib

/-- What guess answers: the quotient, or one more. -/
def Guessed (q : Nat) (e : Ending) : Prop := ∃ t : Nat, e = .returned (.int .u32 t) ∧ q ≤ t ∧ t ≤ q + 1 ∧ t < 4294967296

/-- A product of two limbs by a name. -/
theorem prod_name {x y : Nat} (hx : x < 4294967296) (hy : y < 4294967296) : ∃ p : Nat, x * y = p ∧ (x : Int) * (y : Int) = (p : Int) ∧ (p : Int) ≤ 18446744073709551615 := by
  have h : x * y ≤ 4294967295 * 4294967295 := Nat.mul_le_mul (by omega) (by omega)
  exact ⟨x * y, rfl, (Int.natCast_mul _ _).symm, by omega⟩

set_option maxRecDepth 100000 in
set_option maxHeartbeats 2000000 in
theorem guess_any (gp op cp gb ob cb n P Dl v1 v0 Nl u2 u1 u0 : Nat) (w : World) (hn : 2 ≤ n) (hn2 : n ≤ 100000) (hG : GuessOk B32 P Dl v1 v0 Nl u2 u1 u0) (hu1 : u1 < 4294967296) (hu2 : u2 < 4294967296)
    (c1 : w.cell? ⟨gb, ob + (n - 1), none⟩ = some (.int .u32 v1)) (c2 : w.cell? ⟨gb, ob + (n - 2), none⟩ = some (.int .u32 v0))
    (c3 : w.cell? ⟨gp, op + n, none⟩ = some (.int .u32 u2)) (c4 : w.cell? ⟨gp, op + (n - 1), none⟩ = some (.int .u32 u1)) (c5 : w.cell? ⟨gp, op + (n - 2), none⟩ = some (.int .u32 u0)) :
    Calls Tryd.prog 54 #[.slice (some ⟨gp, op, none⟩) (n + 1) cp, .slice (some ⟨gb, ob, none⟩) n cb] w fun e w' => Guessed ((Nl + P * (u0 + B32 * (u1 + B32 * u2))) / (Dl + P * (v0 + B32 * v1))) e ∧ ∃ n, w' = w.drewN n := by
  have hv0 : v0 < 4294967296 := hG.hv0
  have hv1 : v1 < 4294967296 := hG.hv1
  have hu0 : u0 < 4294967296 := hG.hu0
  have htop : 4294967296 ≤ 2 * v1 := hG.htop
  have st := guess_start hG
  obtain ⟨q, hq⟩ : ∃ q, (Nl + P * (u0 + B32 * (u1 + B32 * u2))) / (Dl + P * (v0 + B32 * v1)) = q := ⟨_, rfl⟩
  rw [hq] at st ⊢
  obtain ⟨W, hW⟩ : ∃ W, u1 + B32 * u2 = W := ⟨_, rfl⟩
  rw [hW] at st
  have hWi : (u2 : Int) * 4294967296 + (u1 : Int) = (W : Int) := by rw [← hW]; show (u2 : Int) * 4294967296 + (u1 : Int) = ((u1 + 4294967296 * u2 : Nat) : Int); omega
  have hW2 : (W : Int) ≤ 18446744073709551615 := by omega
  have HQ := Lib.hid hq; clear hq
  have HW := Lib.hid hW; clear hW
  have hdm := Nat.div_add_mod W v1
  obtain ⟨t0, ht0⟩ : ∃ t0, W / v1 = t0 := ⟨_, rfl⟩
  obtain ⟨l0, hl0⟩ : ∃ l0, W % v1 = l0 := ⟨_, rfl⟩
  have hl0b : l0 < 4294967296 := by rw [← hl0]; have := Nat.mod_lt W (show 0 < v1 by omega); omega
  rw [ht0] at st hdm
  rw [hl0] at hdm
  rw [Nat.mul_comm] at hdm
  have ht0i : (W : Int) / (v1 : Int) = (t0 : Int) := by rw [← ht0]; exact (Int.natCast_ediv _ _).symm
  have hl0i : (W : Int) % (v1 : Int) = (l0 : Int) := by rw [← hl0]; exact (Int.natCast_emod _ _).symm
  have hor : bits .or .u64 ((u2 : Int) * 4294967296) (u1 : Int) = (W : Int) := by rw [or_add hu2 hu1, hWi]
  have s1 : IntKind.u64.wrap ((u2 : Int) * 4294967296) = (u2 : Int) * 4294967296 := IntWalk.u64_in _ (by omega)
  have s2 : IntKind.i64.wrap ((n : Int) - 1) = (n : Int) - 1 := IntWalk.i64_in _ (by omega)
  have s3 : IntKind.i64.wrap ((n : Int) - 2) = (n : Int) - 2 := IntWalk.i64_in _ (by omega)
  have s4 : ((n : Int) - 1).toNat = n - 1 := by omega
  have s5 : ((n : Int) - 2).toNat = n - 2 := by omega
  have s6 : (1 : Int) ≤ (n : Int) := by omega
  have s7 : (2 : Int) ≤ (n : Int) := by omega
  have s8 : (n : Int) - 1 < (n : Int) := by omega
  have s9 : (n : Int) - 2 < (n : Int) := by omega
  have s10 : (n : Int) < (n : Int) + 1 := by omega
  have s11 : (n : Int) - 1 < (n : Int) + 1 := by omega
  have hw0 : t0 * v1 + l0 = u1 + B32 * u2 := by rw [HW.out]; exact hdm
  have htb : t0 < 4294967298 := guess_max hG hw0
  have s12 : IntKind.u64.wrap (t0 : Int) = (t0 : Int) := IntWalk.u64_in _ (by omega)
  have HDM := Lib.hid hw0
  have HG := Lib.hid hG
  have HLI := Lib.hid hl0i
  clear hw0 hG hl0i
  have HWI := Lib.hid hWi
  have HT0 := Lib.hid ht0
  have HL0 := Lib.hid hl0
  clear hdm hWi ht0 hl0
  go_enter Tryd.func54, Tryd.ntmps54
  go_wp2
  go_quiet (fail)
  go_wp2
  go_quiet (fail)
  go_wp2
  go_quiet (fail)
  go_wp2
  clear s1 s2 s4 s6 s8 s10 s11 s12 hor ht0i c1 c2 c3 c4
  go_loopw [9, 10] (fun c d wr => ∃ t l k : Nat, c = .int .u64 t ∧ d = .int .u64 l ∧ t * v1 + l = u1 + B32 * u2 ∧ q ≤ t ∧ t < 4294967298 ∧ l < 4294967296 ∧ wr = w.drewN k) (fun c _ _ => (RowKit.intOf c).toNat)
  case atStart => exact ⟨t0, l0, _, rfl, vint HLI.out, HDM.out, st, htb, hl0b, by rw [World.drewN_drewN, World.drewN_drewN]⟩
  case round =>
    obtain ⟨t, l, k, rfl, rfl, hw1, hqt, htb2, hlb, rfl⟩ := hrel
    have HW1 := Lib.hid hw1
    have hor := or_add hlb hu0
    by_cases hc : 4294967296 ≤ t ∨ l * 4294967296 + u0 < t * v0
    · have hdn : q < t := by
        have h := guess_down HG.out (t := t) (left := l) hw1 hc
        rw [HQ.out] at h
        exact h
      obtain ⟨t1, ht1⟩ : ∃ t1, t = t1 + 1 := ⟨t - 1, by omega⟩
      have hw2 : t1 * v1 + (l + v1) = u1 + B32 * u2 := by
        rw [← hw1, ht1, Nat.add_mul]; omega
      have HW2 := Lib.hid hw2
      clear hw1
      have e0 : (t : Int) - 1 = (t1 : Int) := by omega
      have hbr := guess_break HG.out (t := t1) (left := l + v1) hw2
      have hend := guess_end HG.out (t := t1) (left := l + v1) hw2
      rw [HQ.out] at hend
      have HB := Lib.hid hbr
      have HE := Lib.hid hend
      have hq1 : q ≤ t1 := by omega
      have htb3 : t1 < 4294967298 := by omega
      have hm1 : (1 : Int) ≤ (t : Int) := by omega
      have hmt : t1 < t := by omega
      clear hw2 hbr hend hdn hqt
      rcases Nat.lt_or_ge t 4294967296 with hs | hs
      · obtain ⟨p, hp0, hp1, hp2⟩ := prod_name hs hv0
        have hci : (l : Int) * 4294967296 + (u0 : Int) < (p : Int) := by rw [hp0] at hc; omega
        have hsh : ((t : Int) / 4294967296 != 0) = false := by simp; omega
        have hs1 : t1 < 4294967296 := by omega
        clear hc ht1 hp0
        by_cases hl2 : 4294967296 ≤ l + v1
        · have hsl : (((l : Int) + (v1 : Int)) / 4294967296 != 0) = true := by simp; omega
          have HR := Lib.hid (show Guessed q (.returned (.int .u32 t1)) from ⟨t1, rfl, by omega, HE.out (by omega) (HB.out hl2).2, by omega⟩)
          go_wp2
          go_ret
          exact ⟨HR.out, k, rfl⟩
        · have hsl : (((l : Int) + (v1 : Int)) / 4294967296 != 0) = false := by simp; omega
          go_wp2
          go_roundw
          case rel => exact ⟨t1, l + v1, k, rfl, vint (by omega), HW2.out, by omega, by omega, by omega, rfl⟩
          case measure => simp [RowKit.intOf]; omega
      · have hsh : ((t : Int) / 4294967296 != 0) = true := by simp; omega
        clear hc ht1
        by_cases hl2 : 4294967296 ≤ l + v1
        · have hsl : (((l : Int) + (v1 : Int)) / 4294967296 != 0) = true := by simp; omega
          have ht4 : t1 < 4294967296 := (HB.out hl2).1
          have HR := Lib.hid (show Guessed q (.returned (.int .u32 t1)) from ⟨t1, rfl, by omega, HE.out ht4 (HB.out hl2).2, ht4⟩)
          go_wp2
          go_ret
          exact ⟨HR.out, k, rfl⟩
        · have hsl : (((l : Int) + (v1 : Int)) / 4294967296 != 0) = false := by simp; omega
          go_wp2
          go_roundw
          case rel => exact ⟨t1, l + v1, k, rfl, vint (by omega), HW2.out, by omega, by omega, by omega, rfl⟩
          case measure => simp [RowKit.intOf]; omega
    · have ht4 : t < 4294967296 := by omega
      obtain ⟨p, hp0, hp1, hp2⟩ := prod_name ht4 hv0
      have hci : (p : Int) ≤ (l : Int) * 4294967296 + (u0 : Int) := by rw [hp0] at hc; omega
      have hsh : ((t : Int) / 4294967296 != 0) = false := by simp; omega
      have hend := guess_end HG.out (t := t) (left := l) hw1 ht4 (show t * v0 ≤ l * 4294967296 + u0 by rw [hp0]; omega)
      rw [HQ.out] at hend
      have HR := Lib.hid (show Guessed q (.returned (.int .u32 t)) from ⟨t, rfl, hqt, hend, ht4⟩)
      clear hc hp0 hw1 hend
      go_wp2
      go_ret
      exact ⟨HR.out, k, rfl⟩
end Go.Proofs.YtflnackpkcldjaaDoor
