/- Several texts in one (Contracts of layer 3: Read of any power: the nearest float; Plain: Sci's digits are told by their conditions; floats in order. No walk here; Contracts of layer 3: what its laws share: same, digits one by one; Contracts of layer 3: the fixed examples of its laws; Contracts of layer 3: what its laws share: naturals as floats, digits; The definition of layer 3: Parts, above; The definition of layer 2: Text; Plain: rounding hangs on the ratio alone; texts of digits cut and padded. No walk here; The definition of layer 3: Digits; The definition of layer 3: Cut). -/
import Derived.Deep.Upon
import Derived.Test.YtkjdmjglpbnmoaaGreatDoorPw5
namespace Go.Proofs.YtkjdmjglpbnmoaaGreatDoor
open Go.RowKit Go.Lib

theorem big310 (c d : Nat) (hc : c = 310) (hd : d = 1025) : 2 ^ d ≤ 10 ^ c := by
  have h : 2 ^ 205 ≤ 10 ^ 62 := by decide
  have h2 := Nat.pow_le_pow_left h 5
  rwa [← Nat.pow_mul, ← Nat.pow_mul, show 205 * 5 = d by omega, show 62 * 5 = c by omega] at h2
theorem big325 (c d : Nat) (hc : c = 325) (hd : d = 1075) : 2 ^ d ≤ 10 ^ c := by
  have h : 2 ^ 215 ≤ 10 ^ 65 := by decide
  have h2 := Nat.pow_le_pow_left h 5
  rwa [← Nat.pow_mul, ← Nat.pow_mul, show 215 * 5 = d by omega, show 65 * 5 = c by omega] at h2
theorem V_inf (c : Nat) (hc : c = 2046) : V 9218868437227405312 = 4503599627370496 * 2 ^ c := by
  have h := V_at c 4503599627370496 (by omega) (Or.inr (by omega))
  rwa [show c * 4503599627370496 + 4503599627370496 = 9218868437227405312 by omega] at h
/-- What is as great as ten to the 310 is infinity. -/
theorem near_top {n D r : Nat} (hn : 0 < n) (c : Nat) (hc : c = 310) (h : Near (2 * (n * 10 ^ c) * S1074) 1 r) : r = 9218868437227405312 := by
  rcases Nat.lt_or_ge r 9218868437227405312 with hlt | hge
  · exfalso
    have h1 := h.hi hlt
    have h2 := V_lt hlt
    have h3 := V_le (show r + 1 ≤ 9218868437227405312 by omega)
    obtain ⟨f, hf⟩ : ∃ f : Nat, f = 1074 := ⟨_, rfl⟩
    rw [S_eq f hf] at h1
    obtain ⟨d, hd⟩ : ∃ d : Nat, d = 1025 := ⟨_, rfl⟩
    have h4 := big310 c d hc hd
    have h5 := V_inf (d - 51 + f - 2) (by omega)
    have h6 : 4503599627370496 * 2 ^ (d - 51 + f - 2) = 2 ^ (d - 1) * 2 ^ f := by
      rw [show (4503599627370496 : Nat) = 2 ^ 52 by decide, ← Nat.pow_add, ← Nat.pow_add, show 52 + (d - 51 + f - 2) = d - 1 + f by omega]
    have h7 : 2 ^ d = 2 * 2 ^ (d - 1) := by rw [← Nat.pow_succ', show (d - 1).succ = d by omega]
    have h8 : 2 * (1 * 2 ^ (d - 1)) * 2 ^ f ≤ 2 * (n * 10 ^ c) * 2 ^ f := Nat.mul_le_mul_right _ (Nat.mul_le_mul_left _ (Nat.mul_le_mul hn (by omega)))
    rw [Nat.one_mul, Nat.mul_assoc] at h8
    rw [h5, h6] at h2 h3
    rw [Nat.mul_one] at h1
    generalize 2 ^ (d - 1) * 2 ^ f = z at *
    omega
  · exact Nat.le_antisymm h.top hge
theorem near_inf {X : Nat} {X' : Nat} (h : Near X 1 9218868437227405312) (hx : X ≤ X') : Near X' 1 9218868437227405312 :=
  ⟨fun q hq => Nat.le_trans (h.lo q hq) hx, fun _ _ _ => rfl, fun h => absurd h (by omega), fun h => absurd h (by omega), Nat.le_refl _⟩
/-- What is less than ten to the -325 is nought. -/
theorem near_low {n r : Nat} (c t : Nat) (hc : c = 1349) (ht : t = 1024) (hn : n < 10 ^ t) (h : Near (2 * n * S1074) (10 ^ c) r) : r = 0 := by
  rcases Nat.eq_zero_or_pos r with h0 | h0
  · exact h0
  · exfalso
    have h1 := h.lo (r - 1) (by omega)
    have h2 := V_lt h0
    obtain ⟨f, hf⟩ : ∃ f : Nat, f = 1074 := ⟨_, rfl⟩
    rw [S_eq f hf] at h1
    have h4 := big325 (c - t) (f + 1) (by omega) (by omega)
    have h5 : 10 ^ c = 10 ^ t * 10 ^ (c - t) := by rw [← Nat.pow_add]; congr 1; omega
    have h6 : 1 * 10 ^ c ≤ (V (r - 1) + V r) * 10 ^ c := Nat.mul_le_mul_right _ (by omega)
    have h7 : 2 * n * 2 ^ f < 2 * 10 ^ t * 2 ^ f := Nat.mul_lt_mul_of_pos_right (by omega) (Nat.pow_pos (by omega))
    have h8 : 10 ^ t * 2 ^ (f + 1) ≤ 10 ^ t * 10 ^ (c - t) := Nat.mul_le_mul_left _ h4
    have h9 : 2 * 10 ^ t * 2 ^ f = 10 ^ t * 2 ^ (f + 1) := by rw [Nat.pow_succ, Nat.mul_comm 2, Nat.mul_assoc, Nat.mul_comm 2]
    rw [h5] at h6 h1
    generalize 10 ^ t * 10 ^ (c - t) = z at *
    generalize 10 ^ t * 2 ^ (f + 1) = y at *
    omega
/-- The powers beyond those that Read takes make no difference. -/
theorem near_unclamp {n r : Nat} {x K : Int} (t : Nat) (ht : t = 1024) (hn : n < 10 ^ t) (hx : min (max x (-1349)) 310 = K) (h : Near (2 * (n * 10 ^ K.toNat) * S1074) (10 ^ (-K).toNat) r) :
    Near (2 * (n * 10 ^ x.toNat) * S1074) (10 ^ (-x).toNat) r := by
  rcases Nat.eq_zero_or_pos n with h0 | h0
  · subst h0
    have : r = 0 := by
      rw [Nat.zero_mul, Nat.mul_zero, Nat.zero_mul] at h
      exact h.uniq (Nat.pow_pos (by omega)) (Nat.pow_pos (by omega)) rfl (near_zero (Nat.pow_pos (by omega)))
    subst this
    rw [Nat.zero_mul, Nat.mul_zero, Nat.zero_mul]
    exact near_zero (Nat.pow_pos (by omega))
  by_cases h1 : 310 < x
  · have hK : K = 310 := by omega
    rw [hK, show ((310 : Int)).toNat = 310 by decide, show (-(310 : Int)).toNat = 0 by decide, Nat.pow_zero] at h
    rw [show (-x).toNat = 0 by omega, Nat.pow_zero]
    obtain ⟨c, hc⟩ : ∃ c : Nat, c = 310 := ⟨_, rfl⟩
    rw [← hc] at h
    have hr := near_top (D := 1) h0 c hc h
    subst hr
    refine near_inf h ?_
    exact Nat.mul_le_mul_right _ (Nat.mul_le_mul_left _ (Nat.mul_le_mul_left _ (Nat.pow_le_pow_right (by omega) (by omega))))
  by_cases h2 : x < -1349
  · have hK : K = -1349 := by omega
    rw [hK, show (-(-1349 : Int)).toNat = 1349 by decide, show (-1349 : Int).toNat = 0 by decide, Nat.pow_zero, Nat.mul_one] at h
    rw [show x.toNat = 0 by omega, Nat.pow_zero, Nat.mul_one]
    obtain ⟨c, hc⟩ : ∃ c : Nat, c = 1349 := ⟨_, rfl⟩
    rw [← hc] at h
    have hr := near_low c t hc ht hn h
    subst hr
    refine ⟨fun q e => absurd e (by omega), fun q e => absurd e (by omega), fun _ => ?_, fun _ _ => rfl, by omega⟩
    exact Nat.le_trans (h.hi (by omega)) (Nat.mul_le_mul_left _ (Nat.pow_le_pow_right (by omega) (by omega)))
  · have : K = x := by omega
    subst this
    exact h
/-- Read: the nearest float to the digits times the power of ten. -/
theorem read_yes (s : ByteArray) (x : Int) (w : World) (hs : s.size ≤ 1024) (hd : isDec s = true) :
    Calls Tryz.prog 6 #[.string s, .int .i64 x] w fun e w' => (∃ r, e = .returned (.tuple #[.float .f64 r, .int .i64 0]) ∧ Near (2 * (pv s.data.toList * 10 ^ x.toNat) * S1074) (10 ^ (-x).toNat) r) ∧ Below w.heap.size w w' := by
  refine (read_mid s x _ w hs hd rfl).mono ?_
  rintro e w' ⟨⟨r, rfl, h⟩, hB⟩
  obtain ⟨t, ht⟩ : ∃ t : Nat, t = 1024 := ⟨_, rfl⟩
  refine ⟨⟨r, rfl, near_unclamp t ht ?_ rfl h⟩, hB⟩
  refine Nat.lt_of_lt_of_le (pv_lt (isDec_iff.1 hd).2) (Nat.pow_le_pow_right (by omega) ?_)
  rw [ba_len, ht]
  exact hs
end Go.Proofs.YtkjdmjglpbnmoaaGreatDoor

namespace Go.Proofs.YtkjdmjglpbnmoaaGreatDoor

theorem rnd_mono {A B A' B' : Nat} (hB : 0 < B) (hB' : 0 < B') (h : A * B' ≤ A' * B) : rnd A B ≤ rnd A' B' := by
  obtain ⟨-, h1⟩ := rnd_near A B hB
  obtain ⟨⟨h2, h2e⟩, -⟩ := rnd_near A' B' hB'
  generalize rnd A B = m at *
  generalize rnd A' B' = m' at *
  rcases Nat.lt_or_ge m' m with hlt | hge
  · exfalso
    obtain ⟨h1, h1e⟩ := h1 (by omega)
    have e1 : (2 * m - 1) * B * B' ≤ 2 * A * B' := Nat.mul_le_mul_right _ h1
    have e2 : 2 * A' * B ≤ (2 * m' + 1) * B' * B := Nat.mul_le_mul_right _ h2
    rw [Nat.mul_right_comm _ B' B] at e2
    have e3 : 2 * A * B' ≤ 2 * A' * B := by rw [Nat.mul_assoc, Nat.mul_assoc]; omega
    have e4 : (2 * m - 1) * B * B' ≤ (2 * m' + 1) * B * B' := by omega
    have e5 := Nat.le_of_mul_le_mul_right (Nat.le_of_mul_le_mul_right e4 hB') hB
    have e6 : 2 * m - 1 = 2 * m' + 1 := by omega
    rw [e6] at h1 h1e e1
    have e7 : 2 * A * B' = (2 * m' + 1) * B * B' := by omega
    have e8 : 2 * A' * B = (2 * m' + 1) * B' * B := by rw [Nat.mul_right_comm _ B' B]; omega
    have p1 := h1e (Nat.eq_of_mul_eq_mul_right hB' e7).symm
    have p2 := h2e (Nat.eq_of_mul_eq_mul_right hB e8)
    omega
  · exact hge
theorem sci_mono {N D : Nat} {k l : Int} (hD : 0 < D) (h : k ≤ l) : sciM N D k ≤ sciM N D l := by
  refine rnd_mono (Nat.mul_pos hD (Nat.pow_pos (by omega))) (Nat.mul_pos hD (Nat.pow_pos (by omega))) ?_
  have e : 10 ^ k.toNat * 10 ^ (-l).toNat ≤ 10 ^ l.toNat * 10 ^ (-k).toNat := by
    rw [← Nat.pow_add, ← Nat.pow_add]
    exact Nat.pow_le_pow_right (by omega) (by omega)
  calc N * 10 ^ k.toNat * (D * 10 ^ (-l).toNat) = N * D * (10 ^ k.toNat * 10 ^ (-l).toNat) := by ac_rfl
    _ ≤ N * D * (10 ^ l.toNat * 10 ^ (-k).toNat) := Nat.mul_le_mul_left _ e
    _ = N * 10 ^ l.toNat * (D * 10 ^ (-k).toNat) := by ac_rfl
theorem SciOk.uniq {N D p M M' : Nat} {P P' : Int} (hD : 0 < D) (h : SciOk N D p P M) (h' : SciOk N D p P' M') : P = P' ∧ M = M' := by
  have key : ∀ {P P' : Int} {M M' : Nat}, SciOk N D p P M → SciOk N D p P' M' → ¬ P < P' := fun {P P' M M'} h h' hlt => by
    have h1 := sci_mono (N := N) hD (show (p : Int) - P' + 1 ≤ (p : Int) - P by omega)
    have h2 := h'.more
    have h3 := h.high
    rw [h.val] at h3
    omega
  have e : P = P' := by
    have := key h h'
    have := key h' h
    omega
  subst e
  exact ⟨rfl, by rw [h.val, h'.val]⟩
/-- The order of floats that are not below nought, infinity among them. -/
theorem order_le {r s : Nat} (hr : r ≤ 9218868437227405312) (hs : s ≤ 9218868437227405312) : Ieee.double.order r s = some (compare (r : Int) (s : Int)) := by
  have hm : ∀ x, x ≤ 9218868437227405312 → mag x = x := fun x h => Nat.mod_eq_of_lt (by omega)
  have hg : ∀ x, x ≤ 9218868437227405312 → (x / 9223372036854775808 % 2 == 1) = false := fun x h => by rw [beq_eq_false_iff_ne]; omega
  by_cases h1 : r < 9218868437227405312
  · by_cases h2 : s < 9218868437227405312
    · exact order_V h1 h2
    · unfold Ieee.Format.order
      rw [read_fin (by rw [hm r hr]; exact h1), read_inf (b := s) (by rw [hm s hs]; omega), hg s hs, Int.compare_eq_lt.2 (by omega)]
      rfl
  · by_cases h2 : s < 9218868437227405312
    · unfold Ieee.Format.order
      rw [read_inf (b := r) (by rw [hm r hr]; omega), hg r hr, read_fin (by rw [hm s hs]; exact h2), Int.compare_eq_gt.2 (by omega)]
      rfl
    · unfold Ieee.Format.order
      rw [read_inf (b := r) (by rw [hm r hr]; omega), hg r hr, read_inf (b := s) (by rw [hm s hs]; omega), hg s hs, Int.compare_eq_eq.2 (by omega)]
      rfl
end Go.Proofs.YtkjdmjglpbnmoaaGreatDoor

namespace Go.Proofs.YtkjdmjglpbnmoaaGreatDoor
open Go.RowKit Go.Lib

theorem same_any (x y : Nat) (w : World) : Calls Tryz.prog 8 #[.float .f64 x, .float .f64 y] w fun e w' => e = .returned (.bool ((x : Int) == (y : Int))) ∧ w = w' := by
  have h1 := fun W => run_f64bits x W
  have h2 := fun W => run_f64bits y W
  go_enter Tryz.func8, Tryz.ntmps8
  go_wp2
  go_ret
  exact ⟨rfl, rfl⟩
theorem byte_str (W : World) (x : Int) (h0 : 0 ≤ x) (h1 : x ≤ 255) :
    (convert 94 9 (.slice (some ⟨W.heap.size, 0, none⟩) 1 1)).run Tryz.prog (W.alloc (.cells #[.int .u8 x] 5)) = .ok (.string ⟨#[UInt8.ofNat x.toNat]⟩) (W.alloc (.cells #[.int .u8 x] 5)) := by
  have := run_convert_bytes_back (P := Tryz.prog) (W.alloc (.cells #[.int .u8 x] 5)) 94 9 5 ⟨W.heap.size, 0, none⟩ 1 [UInt8.ofNat x.toNat]
    Tryz.underlying94 Tryz.underlying5 Tryz.underlying9 (fun j hj => by
      obtain rfl : j = 0 := by simpa using hj
      rw [Addr.add_lit, World.cell?_alloc_at _ _ _ _ rfl]
      simp
      omega)
  simpa using this
theorem decs_step {m : Nat} (h : 10 ≤ m) : decs m = decs (m / 10) ++ [db (m % 10)] := by
  have h0 : m / 10 ≠ 0 := by omega
  have e : dig 10 m = m % 10 :: dig 10 (m / 10) := by
    refine dig_eq (by decide) ⟨lim_cons.2 ⟨Nat.mod_lt _ (by omega), (dig_norm (by decide) _).1⟩, ?_⟩ ?_
    · have := (dig_norm (B := 10) (by decide) (m / 10)).2
      have hn : dig 10 (m / 10) ≠ [] := fun e => h0 (dig_nil (by decide) e)
      unfold Top at *
      rw [List.getLast?_cons]
      rw [List.getLast?_eq_some_getLast hn] at this ⊢
      exact this
    · rw [vl_cons, dig_vl (by decide)]
      omega
  rw [decs, if_neg (by omega), e, decs, if_neg h0]
  simp
theorem decs_one {m : Nat} (h : m < 10) : decs m = [db (m % 10)] := by
  have : ∀ m : Nat, m < 10 → decs m = [db (m % 10)] := by decide
  exact this m h
/-- What stands ahead of the digits that are written already. -/
def ahead (m : Nat) : List UInt8 := if m < 10 then [] else decs (m / 10)
theorem ahead_step (m : Nat) : ahead m ++ [db (m % 10)] = decs m := by
  unfold ahead
  split
  · rw [decs_one (by assumption)]; rfl
  · rw [decs_step (m := m) (by omega)]
theorem byte_db {m : Nat} : UInt8.ofNat (48 + (m : Int) % 10).toNat = db (m % 10) := by
  rw [show (48 + (m : Int) % 10).toNat = 48 + m % 10 by omega]
  rfl
end Go.Proofs.YtkjdmjglpbnmoaaGreatDoor

namespace Go.Proofs.YtkjdmjglpbnmoaaGreatDoor
open Go.RowKit Go.Lib

theorem near_strict {X D r : Nat} (h1 : ∀ q, r = q + 1 → (V q + V r) * D < X) (h2 : X < (V r + V (r + 1)) * D) (ht : r ≤ 9218868437227405312) : Near X D r :=
  ⟨fun q hq => Nat.le_of_lt (h1 q hq), fun q hq e => absurd e (Nat.ne_of_lt (h1 q hq)), fun _ => Nat.le_of_lt h2, fun _ e => absurd e (Nat.ne_of_lt h2), ht⟩
def exB (X D a b c : Nat) : Bool := decide ((a + b) * D < X) && decide (X < (b + c) * D)
theorem near_exB {X D q : Nat} (h : exB X D (V q) (V (q + 1)) (V (q + 1 + 1)) = true) (ht : q + 1 ≤ 9218868437227405312) : Near X D (q + 1) := by
  unfold exB at h
  rw [Bool.and_eq_true, decide_eq_true_eq, decide_eq_true_eq] at h
  refine near_strict (fun r hr => ?_) h.2 ht
  obtain rfl : r = q := Nat.succ.inj hr.symm
  exact h.1
theorem near_ex : Near (2 * 31416 * S1074) 10000 4614256673094690983 := near_exB (q := 4614256673094690982) (by decide +kernel) (by decide)
theorem ex2_t : (fixT (decs (rnd (amN (mag 4612811918334230528) * 10 ^ 0) (amD (mag 4612811918334230528)))) 0 == [50]) = true := by decide +kernel
def sciB (N D p : Nat) (P : Int) (M : Nat) : Bool := M == sciM N D ((p : Int) - P) && Nat.ble (10 ^ p) M && Nat.blt M (10 ^ (p + 1)) && Nat.ble (10 ^ (p + 1)) (sciM N D ((p : Int) - P + 1))
theorem sciB_ok {N D p : Nat} {P : Int} {M : Nat} (h : sciB N D p P M = true) (hb : -400 ≤ P ∧ P ≤ 400) : SciOk N D p P M := by
  unfold sciB at h
  simp only [Bool.and_eq_true, beq_iff_eq] at h
  obtain ⟨⟨⟨h1, h2⟩, h3⟩, h4⟩ := h
  exact ⟨h1, Nat.le_of_ble_eq_true h2, Nat.le_of_ble_eq_true h3, Nat.le_of_ble_eq_true h4, hb⟩
theorem ex3_t : sciB (amN (mag 4653144203864309760)) (amD (mag 4653144203864309760)) 3 3 1234 = true := by decide +kernel
theorem ex3_d : (decs 1234 == [49, 50, 51, 52]) = true := by decide +kernel
set_option maxRecDepth 100000 in
set_option maxHeartbeats 1000000 in
theorem lfixed_any (w : World) : Calls Tryz.prog 5 #[] w fun e w' => e = .returned (.bool true) ∧ Below w.heap.size w w' := by
  have c1 : Calls Tryz.prog 6 #[.string ⟨#[51, 49, 52, 49, 54]⟩, .int .i64 (-4)] w fun e w' => e = .returned (.tuple #[.float .f64 4614256673094690983, .int .i64 0]) ∧ Below w.heap.size w w' := by
    refine (read_yes ⟨#[51, 49, 52, 49, 54]⟩ (-4) w (by decide) (isDec_iff.2 ⟨by decide, by unfold Dec; decide⟩)).mono ?_
    rintro e w' ⟨⟨r, rfl, h⟩, hB⟩
    have hp : pv (⟨#[51, 49, 52, 49, 54]⟩ : ByteArray).data.toList = 31416 := by decide
    rw [hp, show (-4 : Int).toNat = 0 by decide, show (-(-4 : Int)).toNat = 4 by decide, Nat.pow_zero, Nat.mul_one] at h
    have := h.uniq (by decide) (by decide) rfl near_ex
    subst this
    exact ⟨rfl, hB⟩
  have c2 : ∀ W : World, Calls Tryz.prog 10 #[.float .f64 4612811918334230528, .int .i64 0] W fun e w' => e = .returned (.tuple #[.string ⟨#[50]⟩, .int .i64 0]) ∧ Below W.heap.size W w' := fun W => by
    have h := fixed_yes 4612811918334230528 0 W (by omega) (by decide) (by omega)
    rw [eq_of_beq ex2_t] at h
    exact h
  have c3 : ∀ W : World, Calls Tryz.prog 12 #[.float .f64 4653144203864309760, .int .i64 3] W fun e w' => e = .returned (.tuple #[.string ⟨#[49, 50, 51, 52]⟩, .int .i64 3, .int .i64 0]) ∧ Below W.heap.size W w' := fun W => by
    refine (sci_yes 4653144203864309760 3 W (by omega) (by decide) (by decide) (by omega)).mono ?_
    rintro e w' ⟨⟨P, M, h, rfl⟩, hB⟩
    obtain ⟨rfl, rfl⟩ := h.uniq (amD_pos _) (sciB_ok ex3_t (by omega))
    rw [eq_of_beq ex3_d]
    exact ⟨rfl, hB⟩
  have CR := Lib.hid c1
  have CF := Lib.hid c2
  have CS := Lib.hid c3
  have ho : (FloatKind.f64.format.order 4614256673094690983 4614256673094690983 == some .eq) = true := by decide
  clear c1 c2 c3
  go_enter Tryz.func5, Tryz.ntmps5
  go_wp2_with fail
  refine CR.out.mono ?_
  rintro e w1 ⟨rfl, hB⟩
  go_wp2_with fail
  refine (CF.out _).mono ?_
  rintro e w2 ⟨rfl, hn⟩
  have hB := hB.trans (hn.mono hB.size)
  clear hn
  go_wp2_with fail
  refine (CS.out _).mono ?_
  rintro e w3 ⟨rfl, hn⟩
  have hB := hB.trans (hn.mono hB.size)
  clear hn
  go_wp2
  go_ret
  exact ⟨rfl, hB⟩
end Go.Proofs.YtkjdmjglpbnmoaaGreatDoor

namespace Go.Proofs.YtkjdmjglpbnmoaaGreatDoor
open Go.RowKit Go.Lib

theorem V_am {r : Nat} : V r * amD r = amN r * S1074 := by
  obtain ⟨c, hc⟩ : ∃ c : Nat, c = 1074 := ⟨_, rfl⟩
  rw [← val_V, Nat.shiftLeft_eq, amN, amD, S_eq c hc, Nat.mul_assoc, Nat.mul_assoc, ← Nat.pow_add, ← Nat.pow_add]
  have := expF_lo r
  rw [show (expF r - -1074).toNat + (-expF r).toNat = (expF r).toNat + c by omega]
theorem S_pos : 0 < S1074 := by
  obtain ⟨c, hc⟩ : ∃ c : Nat, c = 1074 := ⟨_, rfl⟩
  rw [S_eq c hc]
  exact Nat.pow_pos (by omega)
theorem am_fw {m : Nat} (h : m < 9007199254740992) : amN (fw m) = m * amD (fw m) := by
  have h1 := V_am (r := fw m)
  rw [fw_V h] at h1
  refine Nat.eq_of_mul_eq_mul_right S_pos ?_
  rw [← h1]
  generalize S1074 = z
  ac_rfl
theorem rnd_exact (q D : Nat) (hD : 0 < D) : rnd (q * D) D = q := by
  rw [rnd, Nat.mul_div_cancel _ hD, Nat.mul_mod_left, if_neg (by omega)]
theorem decs_zeros {n : Nat} (h : 0 < n) (p : Nat) : decs (n * 10 ^ p) = decs n ++ List.replicate p 48 := by
  induction p with
  | zero => simp
  | succ p ih =>
    have h1 : 0 < n * 10 ^ p := Nat.mul_pos h (Nat.pow_pos (by omega))
    rw [Nat.pow_succ, ← Nat.mul_assoc, decs_step (by omega), Nat.mul_div_cancel _ (by omega), Nat.mul_mod_left, ih, List.replicate_succ', List.append_assoc]
    rfl
theorem fix_whole (n p : Nat) (hp : 0 < p) : fixT (decs (n * 10 ^ p)) p = decs n ++ 46 :: List.replicate p 48 := by
  rw [fixT, if_neg (by omega)]
  have key : padT (decs (n * 10 ^ p)) p = decs n ++ List.replicate p 48 := by
    rcases Nat.eq_zero_or_pos n with rfl | h
    · rw [Nat.zero_mul, padT, decs_zero]
      show List.replicate (p + 1 - 1) 48 ++ [48] = [48] ++ List.replicate p 48
      rw [Nat.add_sub_cancel, ← List.replicate_succ']
      rfl
    · have hl : 1 ≤ (decs n).length := by
        rcases Nat.eq_zero_or_pos (decs n).length with h0 | h0
        · have := (decs_le (n := n) (k := 1) (by omega)).1 (by omega)
          rw [decs_one (by omega)] at h0
          exact absurd h0 (by simp)
        · exact h0
      rw [decs_zeros h, padT, List.length_append, List.length_replicate, show p + 1 - ((decs n).length + p) = 0 by omega]
      rfl
  rw [key, List.length_append, List.length_replicate, Nat.add_sub_cancel, List.take_left', List.drop_left'] <;> rfl
theorem fixed_nat (m p : Nat) (w : World) (hm : m < 9007199254740992) (hp : p ≤ 200) :
    Calls Tryz.prog 10 #[.float .f64 (fw m), .int .i64 p] w fun e w' => e = .returned (.tuple #[.string ⟨(if p = 0 then decs m else decs m ++ 46 :: List.replicate p 48).toArray⟩, .int .i64 0]) ∧ Below w.heap.size w w' := by
  have hb := fw_bd hm
  have hg := fw_mag hm
  have h := fixed_yes (fw m) p w (by omega) (by rw [hg]; omega) hp
  rw [hg, am_fw hm, Nat.mul_right_comm, rnd_exact _ _ (amD_pos _)] at h
  by_cases h0 : p = 0
  · subst h0
    rw [if_pos rfl]
    rw [Nat.pow_zero, Nat.mul_one, fixT, if_pos rfl] at h
    exact h
  · rw [if_neg h0, ← fix_whole m p (by omega)]
    exact h
theorem pv_noughts (k : Nat) (l : List UInt8) : pv (List.replicate k 48 ++ l) = pv l := by
  rw [pv_append, pv_zeros, Nat.zero_mul, Nat.zero_add]
theorem pv_decs (n : Nat) : pv (decs n) = n := by
  induction n using Nat.strongRecOn with
  | _ n ih =>
    rw [← ahead_step, pv_snoc]
    unfold ahead
    split
    · rw [db_toNat (by omega)]
      simp [pv]
      omega
    · rw [ih _ (by omega), db_toNat (Nat.mod_lt _ (by omega))]
      omega
theorem dec_decs (n : Nat) : Dec (decs n) := by
  induction n using Nat.strongRecOn with
  | _ n ih =>
    rw [← ahead_step]
    intro c hc
    rcases List.mem_append.1 hc with h | h
    · unfold ahead at h
      split at h
      · exact absurd h (by simp)
      · exact ih _ (by omega) c h
    · rw [List.mem_singleton.1 h, db_toNat (Nat.mod_lt _ (by omega))]
      omega
theorem dec_noughts (k : Nat) : Dec (List.replicate k (48 : UInt8)) := fun c hc => by
  rw [(List.mem_replicate.1 hc).2]
  decide
/-- The number that is read, where the exact value is a natural below 2^53. -/
theorem near_fw {m a r : Nat} {D : Nat} (hm : m < 9007199254740992) (hD : 0 < D) (ha : a = m * D) (h : Near (2 * a * S1074) D r) : r = fw m := by
  have hs := Near.self (r := fw m) (by have := fw_bd hm; omega)
  rw [fw_V hm] at hs
  refine h.uniq hD (by omega) ?_ hs
  rw [ha]
  generalize S1074 = z
  ac_rfl
/-- Digits and a nought behind them, with the power one less. -/
theorem near_shift {n r r' : Nat} {x : Int} (h : Near (2 * (n * 10 ^ x.toNat) * S1074) (10 ^ (-x).toNat) r) (h' : Near (2 * (n * 10 * 10 ^ (x - 1).toNat) * S1074) (10 ^ (-(x - 1)).toNat) r') : r = r' := by
  refine h.uniq (Nat.pow_pos (by omega)) (Nat.pow_pos (by omega)) ?_ h'
  have e : 10 ^ x.toNat * 10 ^ (-(x - 1)).toNat = 10 * 10 ^ (x - 1).toNat * 10 ^ (-x).toNat := by
    rw [← Nat.pow_succ', ← Nat.pow_add, ← Nat.pow_add]
    congr 1
    omega
  generalize S1074 = z
  calc 2 * (n * 10 ^ x.toNat) * z * 10 ^ (-(x - 1)).toNat = 2 * n * z * (10 ^ x.toNat * 10 ^ (-(x - 1)).toNat) := by ac_rfl
    _ = 2 * n * z * (10 * 10 ^ (x - 1).toNat * 10 ^ (-x).toNat) := by rw [e]
    _ = 2 * (n * 10 * 10 ^ (x - 1).toNat) * z * 10 ^ (-x).toNat := by ac_rfl
theorem near_mono {n m r s : Nat} {x : Int} (hnm : n ≤ m) (h : Near (2 * (n * 10 ^ x.toNat) * S1074) (10 ^ (-x).toNat) r) (h' : Near (2 * (m * 10 ^ x.toNat) * S1074) (10 ^ (-x).toNat) s) : r ≤ s :=
  h.le (Nat.pow_pos (by omega)) (Nat.pow_pos (by omega)) (Nat.mul_le_mul_right _ (Nat.mul_le_mul_right _ (Nat.mul_le_mul_left _ (Nat.mul_le_mul_right _ hnm)))) h'
/-- What Read answers, with a name for the float. -/
def ReadEnd (w : World) (X D : Nat) (e : Ending) (w' : World) : Prop := ∃ r, e = .returned (.tuple #[.float .f64 r, .int .i64 0]) ∧ Hid (Near X D r) ∧ Below w.heap.size w w'
theorem read_end (s : ByteArray) (n : Nat) (x : Int) (w : World) (hs : s.size ≤ 1024) (hd : isDec s = true) (hn : pv s.data.toList = n) :
    Calls Tryz.prog 6 #[.string s, .int .i64 x] w (ReadEnd w (2 * (n * 10 ^ x.toNat) * S1074) (10 ^ (-x).toNat)) := by
  refine (read_yes s x w hs hd).mono ?_
  rintro e w' ⟨⟨r, rfl, h⟩, hB⟩
  rw [hn] at h
  exact ⟨r, rfl, Lib.hid h, hB⟩
theorem decs_len_of {M p : Nat} (h1 : 10 ^ p ≤ M) (h2 : M < 10 ^ (p + 1)) : (decs M).length = p + 1 := by
  have a := (decs_le (n := M) (k := p + 1) (by omega)).2 h2
  rcases Nat.eq_zero_or_pos p with rfl | hp
  · have : 1 ≤ (decs M).length := by rw [← ahead_step, List.length_append]; simp
    omega
  · rcases Nat.lt_or_ge p (decs M).length with h3 | h3
    · omega
    · exact absurd ((decs_le hp).1 h3) (by omega)
end Go.Proofs.YtkjdmjglpbnmoaaGreatDoor

namespace Go.Proofs.YtkjdmjglpbnmoaaGreatDoor
open Go.RowKit Go.Lib

set_option maxRecDepth 100000 in
set_option maxHeartbeats 1000000 in
theorem rparts_no (b : Nat) (w : World) (hb : b < 18446744073709551616) (h : 9218868437227405312 ≤ mag b) (h2 : mag b / 4503599627370496 = 2047) : Calls Tryz.prog 15 #[.float .f64 b] w fun e w' => e = .returned (.tuple #[.int .u64 0, .int .i64 0, .bool false]) ∧ w = w' := by
  have hr := run_f64bits b w
  have hm : (b : Int) % 9223372036854775808 = ((mag b : Nat) : Int) := by unfold mag; omega
  obtain ⟨m, hme⟩ : ∃ m, mag b = m := ⟨_, rfl⟩
  rw [hme] at h h2 hm
  have hy : ((m : Int) / 4503599627370496) = 2047 := by omega
  clear h h2 hme
  go_enter Tryz.func15, Tryz.ntmps15
  go_wp2
  go_ret3
  exact ⟨rfl, rfl⟩
set_option maxRecDepth 100000 in
set_option maxHeartbeats 1000000 in
theorem rparts_yes (b : Nat) (w : World) (hb : b < 18446744073709551616) (h : mag b < 9218868437227405312) : Calls Tryz.prog 15 #[.float .f64 b] w fun e w' => e = .returned (.tuple #[.int .u64 (manF (mag b)), .int .i64 (expF (mag b)), .bool true]) ∧ w = w' := by
  have hr := run_f64bits b w
  have hm : (b : Int) % 9223372036854775808 = ((mag b : Nat) : Int) := by unfold mag; omega
  obtain ⟨m, hme⟩ : ∃ m, mag b = m := ⟨_, rfl⟩
  rw [hme] at h hm
  rw [hme]
  clear hme
  obtain ⟨y, hy⟩ : ∃ y, m / 4503599627370496 = y := ⟨_, rfl⟩
  have hy2 : y ≤ 2046 := by omega
  have hyd : (m : Int) / 4503599627370496 = (y : Int) := by omega
  have hyn : ((y : Int) == 2047) = false := by rw [beq_eq_false_iff_ne]; omega
  by_cases hs : m < 4503599627370496
  · have HM := Lib.hid (show ((manF m : Nat) : Int) = (m : Int) % 4503599627370496 by rw [manF, if_pos hs]; omega)
    have HE := Lib.hid (show expF m = -1074 by rw [expF, if_pos hs])
    have hy0 : ((y : Int) == 0) = true := by rw [beq_iff_eq]; omega
    clear hy hs
    go_enter Tryz.func15, Tryz.ntmps15
    go_wp2
    go_ret3
    exact ⟨by rw [HM.out, HE.out]; rfl, rfl⟩
  · have HM := Lib.hid (show ((manF m : Nat) : Int) = (m : Int) % 4503599627370496 + 4503599627370496 by rw [manF, if_neg hs]; omega)
    have HE := Lib.hid (show expF m = (y : Int) - 1075 by rw [expF, if_neg hs, hy]; omega)
    have hy0 : ((y : Int) == 0) = false := by rw [beq_eq_false_iff_ne]; omega
    clear hy hs
    go_enter Tryz.func15, Tryz.ntmps15
    go_wp2
    go_ret3
    exact ⟨by rw [HM.out, HE.out]; rfl, rfl⟩
theorem dlen_mul {a b k j : Nat} (ha : (dig D4 a).length ≤ k) (hb : (dig D4 b).length ≤ j) : (dig D4 (a * b)).length ≤ k + j := by
  rw [dig_len_le (by decide)] at ha hb ⊢
  rw [Nat.pow_add]
  exact Nat.mul_lt_mul'' ha hb
/-- The two sides that 'above' compares. -/
def abL (n : Nat) (x : Int) (r : Nat) : Nat := n * (10 ^ x.toNat * 2 ^ (-(expF r - 1)).toNat)
def abR (x : Int) (r : Nat) : Nat := (manF r * 2 + 1) * (10 ^ (-x).toNat * 2 ^ (expF r - 1).toNat)
set_option maxRecDepth 100000 in
set_option maxHeartbeats 4000000 in
theorem above_any (A : Option Addr) (ca n : Nat) (x : Int) (r : Nat) (w : World) (hx0 : -5000 ≤ x) (hx1 : x ≤ 5000) (hr : r < 9218868437227405312) (hnl : (dig D4 n).length ≤ 5000) (hra : Rd .i64 w A (dig D4 n)) :
    Calls Tryz.prog 25 #[.slice A (dig D4 n).length ca, .int .i64 x, .int .u64 r] w fun e w' => e = .returned (.int .i64 (cmpZ (abL n x r) (abR x r))) ∧ Below w.heap.size w w' := by
  have hmr : mag r = r := Nat.mod_eq_of_lt (by omega)
  have hf := fun W => run_f64from r W
  have c1 := fun W => rparts_yes r W (by omega) (by rw [hmr]; exact hr)
  rw [hmr] at c1
  have he := expF_bd hr
  have hml := manF_lt (r := r)
  unfold abL abR
  obtain ⟨m, hm⟩ : ∃ m, manF r = m := ⟨_, rfl⟩
  obtain ⟨E, hE⟩ : ∃ E, expF r = E := ⟨_, rfl⟩
  rw [hm, hE] at c1
  rw [hE] at he
  rw [hm] at hml
  rw [hm, hE]
  have k1 : max x 0 = ((x.toNat : Nat) : Int) := by omega
  have k2 : max (-(E - 1)) 0 = (((-(E - 1)).toNat : Nat) : Int) := by omega
  have k3 : max (-x) 0 = (((-x).toNat : Nat) : Int) := by omega
  have k4 : max (E - 1) 0 = (((E - 1).toNat : Nat) : Int) := by omega
  have b1 : x.toNat ≤ 5000 := by omega
  have b2 : (-(E - 1)).toNat ≤ 5000 := by omega
  have b3 : (-x).toNat ≤ 5000 := by omega
  have b4 : (E - 1).toNat ≤ 5000 := by omega
  generalize x.toNat = p10 at *
  generalize (-(E - 1)).toNat = q2 at *
  generalize (-x).toNat = q10 at *
  generalize (E - 1).toNat = p2 at *
  have cS := fun (W : World) => small_any m W (by omega)
  have cS2 := fun (W : World) => small_any 2 W (by omega)
  have cS1 := fun (W : World) => small_any 1 W (by omega)
  have l1 := dig4_powb (b := 10) (j := p10) (by omega) (by omega)
  have l2 := dig4_powb (b := 2) (j := q2) (by omega) (by omega)
  have l3 := dig4_powb (b := 10) (j := q10) (by omega) (by omega)
  have l4 := dig4_powb (b := 2) (j := p2) (by omega) (by omega)
  have ln : ∀ z, z < 10000000000000000000000000000000000000000 → (dig D4 z).length ≤ 16 := fun z hz => (dig_len_le (by decide) z 16).2 (Nat.lt_trans hz (by decide))
  have cM := fun (A1 A2 : Option Addr) (c1 c2 a b : Nat) (W : World) (h1 : (dig D4 a).length ≤ 30000) (h2 : (dig D4 b).length ≤ 30000) (hr1 : Rd .i64 W A1 (dig D4 a)) (hr2 : Rd .i64 W A2 (dig D4 b)) => rmul_any A1 A2 c1 c2 (dig D4 a) (dig D4 b) W (lim4p _) (lim4p _) (by omega) (by omega) hr1 hr2
  simp only [dig_vl (show 2 ≤ D4 by decide)] at cM
  have cA := fun (A1 A2 : Option Addr) (c1 c2 a b : Nat) (W : World) (h1 : (dig D4 a).length ≤ 30000) (h2 : (dig D4 b).length ≤ 30000) (hr1 : Rd .i64 W A1 (dig D4 a)) (hr2 : Rd .i64 W A2 (dig D4 b)) => radd_any A1 A2 c1 c2 (dig D4 a) (dig D4 b) W (lim4p _) (lim4p _) (by omega) (by omega) hr1 hr2
  simp only [dig_vl (show 2 ≤ D4 by decide)] at cA
  have cC := fun (A1 A2 : Option Addr) (c1 c2 a b : Nat) (W : World) (h1 : (dig D4 a).length ≤ 30000) (h2 : (dig D4 b).length ≤ 30000) (hr1 : Rd .i64 W A1 (dig D4 a)) (hr2 : Rd .i64 W A2 (dig D4 b)) => rcmp_any A1 A2 c1 c2 (dig D4 a) (dig D4 b) W (dig_norm (by decide) _) (dig_norm (by decide) _) (by omega) (by omega) hr1 hr2
  simp only [dig_vl (show 2 ≤ D4 by decide)] at cC
  have CP := Lib.hid c1
  have CS := Lib.hid cS
  have CS2 := Lib.hid cS2
  have CS1 := Lib.hid cS1
  have CM := Lib.hid cM
  have CA := Lib.hid cA
  have CC := Lib.hid cC
  have CPa := Lib.hid (fun W => rpow_b10 p10 W (by omega))
  have CPb := Lib.hid (fun W => rpow_b2 q2 W (by omega))
  have CPc := Lib.hid (fun W => rpow_b10 q10 W (by omega))
  have CPd := Lib.hid (fun W => rpow_b2 p2 W (by omega))
  have m1 : (dig D4 m).length ≤ 16 := ln _ (by omega)
  have m2 : (dig D4 (m * 2)).length ≤ 16 := ln _ (by omega)
  have m3 : (dig D4 (m * 2 + 1)).length ≤ 16 := ln _ (by omega)
  have m4 : (dig D4 2).length ≤ 16 := ln _ (by omega)
  have m5 : (dig D4 1).length ≤ 16 := ln _ (by omega)
  have m6 := dlen_mul l1 l2
  have m7 := dlen_mul l3 l4
  have m8 := dlen_mul hnl m6
  have m9 := dlen_mul m3 m7
  have HA := Lib.hid hra
  have hB := Below.refl w.heap.size w
  clear c1 cS cS2 cS1 cM cA cC hm hE hmr ln hra
  go_enter Tryz.func25, Tryz.ntmps25
  go_wp2_with fail
  refine (CP.out _).mono ?_
  rintro e w' ⟨rfl, rfl⟩
  go_wp2_with fail
  refine (CS.out _).mono ?_
  rintro e w1 ⟨v, rfl, o, nb⟩
  obtain ⟨A1, d1, rfl, _⟩ := o.slice_
  have HA := Lib.hid (HA.out.below nb)
  have Q1 : Hid (Rd .i64 w1 A1 (dig D4 m)) := o.rd
  have hB := hB.trans (nb.mono hB.size)
  clear o nb
  go_wp2_with fail
  refine (CS2.out _).mono ?_
  rintro e w2 ⟨v, rfl, o, nb⟩
  obtain ⟨A2, d2, rfl, _⟩ := o.slice_
  have HA := Lib.hid (HA.out.below nb)
  have Q1 := Lib.hid (Q1.out.below nb)
  have Q2 : Hid (Rd .i64 w2 A2 (dig D4 2)) := o.rd
  have hB := hB.trans (nb.mono hB.size)
  clear o nb
  go_wp2_with fail
  refine (CM.out A1 A2 d1 d2 m 2 _ (by omega) (by omega) Q1.out Q2.out).mono ?_
  rintro e w3 ⟨v, rfl, o, nb⟩
  obtain ⟨A3, d3, rfl, _⟩ := o.slice_
  have HA := Lib.hid (HA.out.below nb)
  have Q1 := Lib.hid (Q1.out.below nb)
  have Q2 := Lib.hid (Q2.out.below nb)
  have Q3 : Hid (Rd .i64 w3 A3 (dig D4 (m * 2))) := o.rd
  have hB := hB.trans (nb.mono hB.size)
  clear o nb
  clear Q1 Q2
  go_wp2_with fail
  refine (CS1.out _).mono ?_
  rintro e w4 ⟨v, rfl, o, nb⟩
  obtain ⟨A4, d4, rfl, _⟩ := o.slice_
  have HA := Lib.hid (HA.out.below nb)
  have Q3 := Lib.hid (Q3.out.below nb)
  have Q4 : Hid (Rd .i64 w4 A4 (dig D4 1)) := o.rd
  have hB := hB.trans (nb.mono hB.size)
  clear o nb
  go_wp2_with fail
  refine (CA.out A3 A4 d3 d4 (m * 2) 1 _ (by omega) (by omega) Q3.out Q4.out).mono ?_
  rintro e w5 ⟨v, rfl, o, nb⟩
  obtain ⟨A5, d5, rfl, _⟩ := o.slice_
  have HA := Lib.hid (HA.out.below nb)
  have Q3 := Lib.hid (Q3.out.below nb)
  have Q4 := Lib.hid (Q4.out.below nb)
  have Q5 : Hid (Rd .i64 w5 A5 (dig D4 (m * 2 + 1))) := o.rd
  have hB := hB.trans (nb.mono hB.size)
  clear o nb
  clear Q3 Q4
  go_wp2_with fail
  refine (CPa.out _).mono ?_
  rintro e w6 ⟨v, rfl, o, nb⟩
  obtain ⟨A6, d6, rfl, _⟩ := o.slice_
  have HA := Lib.hid (HA.out.below nb)
  have Q5 := Lib.hid (Q5.out.below nb)
  have Q6 : Hid (Rd .i64 w6 A6 (dig D4 (10 ^ p10))) := o.rd
  have hB := hB.trans (nb.mono hB.size)
  clear o nb
  go_wp2_with fail
  refine (CPb.out _).mono ?_
  rintro e w7 ⟨v, rfl, o, nb⟩
  obtain ⟨A7, d7, rfl, _⟩ := o.slice_
  have HA := Lib.hid (HA.out.below nb)
  have Q5 := Lib.hid (Q5.out.below nb)
  have Q6 := Lib.hid (Q6.out.below nb)
  have Q7 : Hid (Rd .i64 w7 A7 (dig D4 (2 ^ q2))) := o.rd
  have hB := hB.trans (nb.mono hB.size)
  clear o nb
  go_wp2_with fail
  refine (CM.out A6 A7 d6 d7 _ _ _ (by omega) (by omega) Q6.out Q7.out).mono ?_
  rintro e w8 ⟨v, rfl, o, nb⟩
  obtain ⟨A8, d8, rfl, _⟩ := o.slice_
  have HA := Lib.hid (HA.out.below nb)
  have Q5 := Lib.hid (Q5.out.below nb)
  have Q6 := Lib.hid (Q6.out.below nb)
  have Q7 := Lib.hid (Q7.out.below nb)
  have Q8 : Hid (Rd .i64 w8 A8 (dig D4 (10 ^ p10 * 2 ^ q2))) := o.rd
  have hB := hB.trans (nb.mono hB.size)
  clear o nb
  clear Q6 Q7
  go_wp2_with fail
  refine (CM.out A A8 ca d8 _ _ _ (by omega) (by omega) HA.out Q8.out).mono ?_
  rintro e w9 ⟨v, rfl, o, nb⟩
  obtain ⟨A9, d9, rfl, _⟩ := o.slice_
  have HA := Lib.hid (HA.out.below nb)
  have Q5 := Lib.hid (Q5.out.below nb)
  have Q8 := Lib.hid (Q8.out.below nb)
  have Q9 : Hid (Rd .i64 w9 A9 (dig D4 (n * (10 ^ p10 * 2 ^ q2)))) := o.rd
  have hB := hB.trans (nb.mono hB.size)
  clear o nb
  clear Q8
  go_wp2_with fail
  refine (CPc.out _).mono ?_
  rintro e w10 ⟨v, rfl, o, nb⟩
  obtain ⟨A10, d10, rfl, _⟩ := o.slice_
  have HA := Lib.hid (HA.out.below nb)
  have Q5 := Lib.hid (Q5.out.below nb)
  have Q9 := Lib.hid (Q9.out.below nb)
  have Q10 : Hid (Rd .i64 w10 A10 (dig D4 (10 ^ q10))) := o.rd
  have hB := hB.trans (nb.mono hB.size)
  clear o nb
  go_wp2_with fail
  refine (CPd.out _).mono ?_
  rintro e w11 ⟨v, rfl, o, nb⟩
  obtain ⟨A11, d11, rfl, _⟩ := o.slice_
  have HA := Lib.hid (HA.out.below nb)
  have Q5 := Lib.hid (Q5.out.below nb)
  have Q9 := Lib.hid (Q9.out.below nb)
  have Q10 := Lib.hid (Q10.out.below nb)
  have Q11 : Hid (Rd .i64 w11 A11 (dig D4 (2 ^ p2))) := o.rd
  have hB := hB.trans (nb.mono hB.size)
  clear o nb
  go_wp2_with fail
  refine (CM.out A10 A11 d10 d11 _ _ _ (by omega) (by omega) Q10.out Q11.out).mono ?_
  rintro e w12 ⟨v, rfl, o, nb⟩
  obtain ⟨A12, d12, rfl, _⟩ := o.slice_
  have HA := Lib.hid (HA.out.below nb)
  have Q5 := Lib.hid (Q5.out.below nb)
  have Q9 := Lib.hid (Q9.out.below nb)
  have Q10 := Lib.hid (Q10.out.below nb)
  have Q11 := Lib.hid (Q11.out.below nb)
  have Q12 : Hid (Rd .i64 w12 A12 (dig D4 (10 ^ q10 * 2 ^ p2))) := o.rd
  have hB := hB.trans (nb.mono hB.size)
  clear o nb
  clear Q10 Q11
  go_wp2_with fail
  refine (CM.out A5 A12 d5 d12 _ _ _ (by omega) (by omega) Q5.out Q12.out).mono ?_
  rintro e w13 ⟨v, rfl, o, nb⟩
  obtain ⟨A13, d13, rfl, _⟩ := o.slice_
  have HA := Lib.hid (HA.out.below nb)
  have Q5 := Lib.hid (Q5.out.below nb)
  have Q9 := Lib.hid (Q9.out.below nb)
  have Q12 := Lib.hid (Q12.out.below nb)
  have Q13 : Hid (Rd .i64 w13 A13 (dig D4 ((m * 2 + 1) * (10 ^ q10 * 2 ^ p2)))) := o.rd
  have hB := hB.trans (nb.mono hB.size)
  clear o nb
  go_wp2_with fail
  refine (CC.out A9 A13 d9 d13 _ _ _ (by omega) (by omega) Q9.out Q13.out).mono ?_
  rintro e w14 ⟨rfl, nd, hm⟩
  have hB : Below w.heap.size w w14 := by rw [hm]; exact below_drewN' hB nd
  clear hm
  go_wp2
  go_ret
  exact ⟨rfl, hB⟩
end Go.Proofs.YtkjdmjglpbnmoaaGreatDoor

namespace Go.Proofs.YtkjdmjglpbnmoaaGreatDoor
open Go.RowKit Go.Lib

/-- The definition's Text: the four digits of a piece. -/
def quad (x : Nat) : List Nat := [x / 1000, x / 100 % 10, x / 10 % 10, x % 10]
theorem quad_lim {x : Nat} (h : x < 10000) : Lim 10 (quad x) := by
  intro y hy
  simp [quad] at hy
  omega
/-- The digits so far, the highest first. -/
structure RTxt (xs ds : List Nat) (k : Nat) : Prop where
  len : ds.length = 4 * (xs.length - k)
  lim : Lim 10 ds
  eq : vl 10 ds.reverse = vl D4 (xs.drop k)
theorem rtxt_start (xs : List Nat) : RTxt xs [] xs.length := ⟨by simp, lim_nil _, by rw [List.drop_length]; rfl⟩
theorem rtxt_step {xs ds : List Nat} {k : Nat} (h : RTxt xs ds (k + 1)) (hk : k < xs.length) (hx : Lim D4 xs) : RTxt xs (ds ++ quad xs[k]) k := by
  have hb := lim_get hx k hk
  refine ⟨?_, lim_append.2 ⟨h.lim, quad_lim hb⟩, ?_⟩
  · rw [List.length_append, h.len]
    show _ + 4 = _
    omega
  · rw [drop_get xs k hk, vl_cons, ← h.eq, List.reverse_append]
    obtain ⟨x, hxe⟩ : ∃ x, xs[k] = x := ⟨_, rfl⟩
    rw [hxe] at hb ⊢
    show vl 10 ((x % 10) :: (x / 10 % 10) :: (x / 100 % 10) :: (x / 1000) :: ds.reverse) = x + 10000 * vl 10 ds.reverse
    simp only [vl_cons]
    omega
/-- The noughts ahead. -/
theorem dropWhile_at {ds : List Nat} {k : Nat} (hk : k < ds.length) (h0 : ∀ j (hj : j < ds.length), j < k → ds[j] = 0) (hne : ds[k] ≠ 0) : ds.dropWhile (· == 0) = ds.drop k := by
  induction k generalizing ds with
  | zero =>
    cases ds with
    | nil => simp at hk
    | cons x l =>
      rw [List.dropWhile_cons, if_neg (by simpa using hne), List.drop_zero]
  | succ k ih =>
    cases ds with
    | nil => simp at hk
    | cons x l =>
      have hx : x = 0 := h0 0 (by simp) (by omega)
      rw [List.dropWhile_cons, if_pos (by simpa using hx), List.drop_succ_cons]
      exact ih (by simpa using hk) (fun j hj h => h0 (j + 1) (by simpa using hj) (by omega)) hne
theorem vl_pos_ex {ds : List Nat} (h : ∀ j (hj : j < ds.length), ds[j] = 0) : vl 10 ds.reverse = 0 := by
  have : ds = List.replicate ds.length 0 := by
    apply List.ext_getElem
    · simp
    · intro i h1 h2; rw [List.getElem_replicate]; exact h i h1
  rw [this, List.reverse_replicate, vl_zeros]
theorem rtxt_end {xs ds : List Nat} {k : Nat} (h : RTxt xs ds 0) (hn : vl D4 xs ≠ 0) (hk : k < ds.length) (h0 : ∀ j (hj : j < ds.length), j < k → ds[j] = 0) (hne : ds[k] ≠ 0) : decs (vl D4 xs) = (ds.drop k).map db := by
  have e := h.eq
  rw [List.drop_zero] at e
  rw [← e, decs_pv (fun x hx => h.lim x (List.mem_reverse.1 hx)) (by rw [e]; exact hn), List.reverse_reverse, dropWhile_at hk h0 hne]
/-- The definition's Parse: pieces of four digits from the end. -/
structure RPar (l : List UInt8) (ds : List Nat) (m : Nat) : Prop where
  lim : Lim D4 ds
  eq : vl D4 ds = pv (l.drop m)
  pow : 0 < m → 10 ^ (l.length - m) = D4 ^ ds.length
theorem rpar_start (l : List UInt8) : RPar l [] l.length := ⟨lim_nil _, by rw [List.drop_length]; rfl, fun _ => by simp⟩
theorem pv_lt4 {l : List UInt8} (h : Dec l) (hl : l.length ≤ 4) : pv l < 10000 := by
  have h1 := pv_lt h
  have h2 : 10 ^ l.length ≤ 10 ^ 4 := Nat.pow_le_pow_right (by omega) hl
  exact Nat.lt_of_lt_of_le h1 h2
theorem drop_split {l : List UInt8} {m m' : Nat} (h : m' ≤ m) : l.drop m' = (l.drop m').take (m - m') ++ l.drop m := by
  have := (List.take_append_drop (m - m') (l.drop m')).symm
  rwa [List.drop_drop, show m' + (m - m') = m by omega] at this
theorem rpar_step {l : List UInt8} {ds : List Nat} {m m' : Nat} (h : RPar l ds m) (hd : Dec l) (hm0 : 0 < m) (hm : m ≤ l.length) (he : m' = m - 4) : RPar l (ds ++ [pv ((l.drop m').take (m - m'))]) m' := by
  have hp := h.pow hm0
  refine ⟨lim_append.2 ⟨h.lim, lim_one.2 (pv_lt4 (dec_take (dec_drop hd _) _) (by rw [List.length_take]; omega))⟩, ?_, ?_⟩
  · rw [vl_snoc, h.eq, ← hp, drop_split (show m' ≤ m by omega), pv_append, List.length_drop, Nat.mul_comm]
    have e : (((l.drop m').take (m - m') ++ l.drop m).take (m - m')) = (l.drop m').take (m - m') := by
      rw [List.take_append_of_le_length (by rw [List.length_take, List.length_drop]; omega), List.take_take, Nat.min_self]
    rw [e]
    omega
  · intro h0
    rw [List.length_append, List.length_singleton, Nat.pow_succ, ← hp, show l.length - m' = (l.length - m) + 4 by omega, Nat.pow_add]
theorem rpar_end {l : List UInt8} {ds : List Nat} (h : RPar l ds 0) : vl D4 ds = pv l := by
  have := h.eq
  rwa [List.drop_zero] at this

theorem cells_four (w : World) (a b c d : Value) (t : TypeId) : ∀ j u, [a, b, c, d][j]? = some u → (w.alloc (.cells #[a, b, c, d] t)).cell? ((⟨w.heap.size, 0, none⟩ : Addr).add j) = some u :=
  (World.ownsRow_lit (base := w.heap.size) (e := t) (size := 1) w #[a, b, c, d] 4 (Nat.le_refl _) (by decide) rfl).cells (g := w.heap.size) rfl
theorem quad_cells {x : Nat} {a b c d : Int} (ha : a = ((48 + x / 1000 : Nat) : Int)) (hb : b = ((48 + x / 100 % 10 : Nat) : Int)) (hc : c = ((48 + x / 10 % 10 : Nat) : Int)) (hd : d = ((48 + x % 10 : Nat) : Int)) :
    [Value.int .u8 a, .int .u8 b, .int .u8 c, .int .u8 d] = nums .u8 (d8 (quad x)) := by
  subst ha hb hc hd
  rfl
theorem d8_app (a b : List Nat) : d8 (a ++ b) = d8 a ++ d8 b := by simp [d8]
theorem Own.more {κ : IntKind} {w : World} {B : Nat} {t : TypeId} {v : Value} {xs ys : List Nat} {k m : Nat} {cs : List Value} (h : w.ownsRow B t 1 v (k + m) (nums κ xs ++ cs)) (hc : cs = nums κ ys) (hk : k = xs.length) (hm : m = ys.length) : Own κ w B t v (xs ++ ys) := by
  subst hc
  exact Own.append h hk hm
theorem fwd_bytes {ds : List Nat} (h : Lim 10 ds) : nums .u8 (d8 ds) = (ds.map db).map fun x => Value.int .u8 x.toNat := by
  have := rev_bytes (ds := ds.reverse) (fun x hx => h x (List.mem_reverse.1 hx))
  rw [List.reverse_reverse] at this
  rw [← this, d8, d8, List.map_reverse, List.reverse_reverse]
/-- 'string(out[k:])'. -/
theorem conv_from (W : World) (B g cap k : Nat) (ds : List Nat) (hl : Lim 10 ds) (hO : Own .u8 W B 5 (.slice (some ⟨g, 0, none⟩) ds.length cap) (d8 ds)) (hk : k ≤ ds.length) :
    (convert 94 9 (.slice (some ⟨g, k, none⟩) (ds.length - k) (cap - k))).run Tryz.prog W = .ok (.string ⟨((ds.drop k).map db).toArray⟩) W := by
  have e : ds.length - k = ((ds.drop k).map db).length := by simp
  rw [e]
  refine run_convert_bytes_back (P := Tryz.prog) W 94 9 5 ⟨g, k, none⟩ (cap - k) ((ds.drop k).map db) Tryz.underlying94 Tryz.underlying5 Tryz.underlying9 (fun j hj => ?_)
  rw [List.length_map, List.length_drop] at hj
  have hc := hO.cell (k + j) (by rw [d8_len]; omega)
  rw [Addr.add_lit, hc]
  have h1 : (d8 ds)[k + j]'(by rw [d8_len]; omega) = 48 + ds[k + j]'(by omega) := by simp [d8]
  have h2 : ((ds.drop k).map db)[j]'(by simp; omega) = db (ds[k + j]'(by omega)) := by simp
  rw [h1, h2, db_toNat (lim_get hl (k + j) (by omega))]

set_option maxRecDepth 100000 in
set_option maxHeartbeats 4000000 in
theorem rtext_any (A : Option Addr) (ca : Nat) (xs : List Nat) (w : World) (hx : Norm D4 xs) (hxn : xs.length ≤ 100000) (hra : Rd .i64 w A xs) :
    Calls Tryz.prog 62 #[.slice A xs.length ca] w fun e w' => e = .returned (.string ⟨(decs (vl D4 xs)).toArray⟩) ∧ Below w.heap.size w w' := by
  by_cases hx0 : xs = []
  · have hb : ((xs.length : Int) == 0) = true := by rw [hx0]; rfl
    have HD := Lib.hid (show decs (vl D4 xs) = [48] by rw [hx0]; rfl)
    clear hx0 hx hra
    go_enter Tryz.func62, Tryz.ntmps62
    go_wp2
    go_ret
    exact ⟨by rw [HD.out]; rfl, Below.refl _ _⟩
  obtain ⟨i0, hi, hz0, hz1, hz2⟩ := info_parts info_u8
  have hlen := List.length_pos_iff.2 hx0
  have hb : ((xs.length : Int) == 0) = false := by rw [beq_eq_false_iff_ne]; omega
  have hpos := vl_top (B := D4) hx.2 hx0
  have hpp : 0 < D4 ^ (xs.length - 1) := Nat.pow_pos (by decide)
  have HNZ := Lib.hid (show vl D4 xs ≠ 0 by omega)
  have hL := hx.1
  clear hx hx0 hpos hpp
  go_enter Tryz.func62, Tryz.ntmps62
  go_wp2
  go_loopw [3, 4] (fun v i wr => ∃ (k : Nat) (ds : List Nat), k ≤ xs.length ∧ i = .int .i64 ((k : Int) - 1) ∧ Own .u8 wr w.heap.size 5 v (d8 ds) ∧ RTxt xs ds k ∧ Below w.heap.size w wr) (fun _ i _ => (RowKit.intOf i + 1).toNat)
  case atStart => exact ⟨xs.length, [], Nat.le_refl _, rfl, Own.nil _ _ _, rtxt_start xs, Below.refl _ _⟩
  case round =>
    obtain ⟨k, ds, hk, rfl, hO, hR, hB⟩ := hrel
    obtain ⟨A3, c3, rfl, hc3⟩ := hO.slice
    have hdl := hR.len
    rw [d8_len] at hO hc3 ⊢
    rcases k with _ | k
    · have hdp : 0 < ds.length := by omega
      obtain ⟨g, rfl, hg⟩ := hO.addr (by rw [d8_len]; exact hdp)
      have HR := Lib.hid hR
      have HO := Lib.hid hO
      have hlm := hR.lim
      have hdb4 : ds.length ≤ 400000 := by omega
      clear hR hO hdl
      go_wp2
      go_loop [6] (fun q => ∃ m : Nat, m < ds.length ∧ q = .int .i64 m ∧ ∀ j (hj : j < ds.length), j < m → ds[j] = 0) (fun q => ds.length - (RowKit.intOf q).toNat)
      case atStart => exact ⟨0, hdp, rfl, fun j _ h => absurd h (by omega)⟩
      case round =>
        obtain ⟨m, hm, rfl, h0⟩ := hrel
        obtain ⟨d, hde⟩ : ∃ d, ds[m] = d := ⟨_, rfl⟩
        have hd10 : d < 10 := by rw [← hde]; exact lim_get hlm m hm
        have hc := HO.out.cell m (by rw [d8_len]; exact hm)
        have he : (d8 ds)[m]'(by rw [d8_len]; exact hm) = 48 + d := by rw [← hde]; simp [d8]
        rw [he] at hc
        have HDE := Lib.hid hde
        have H0 := Lib.hid h0
        clear hde he h0
        by_cases hd0 : d = 0
        · subst hd0
          have hm1 : m + 1 < ds.length := by
            rcases Nat.lt_or_ge (m + 1) ds.length with h | h
            · exact h
            · have hz := vl_pos_ex (ds := ds) (fun j hj => by
                by_cases e : j = m
                · subst e; exact HDE.out
                · exact H0.out j hj (by omega))
              have e := HR.out.eq
              rw [List.drop_zero, hz] at e
              exact absurd e.symm HNZ.out
          go_wp2
          go_round
          case rel => exact ⟨m + 1, hm1, by go_num, fun j hj h => by
            by_cases e : j = m
            · subst e; exact HDE.out
            · exact H0.out j hj (by omega)⟩
          case measure => simp [RowKit.intOf]; omega
        · have hdb : (((48 + d : Nat) : Int) == 48) = false := by rw [beq_eq_false_iff_ne]; omega
          have hdb2 : (48 + (d : Int) == 48) = false := by rw [beq_eq_false_iff_ne]; omega
          have HE := Lib.hid (show decs (vl D4 xs) = List.drop m (List.map db ds) by rw [rtxt_end HR.out HNZ.out hm H0.out (by rw [HDE.out]; exact hd0), List.map_drop])
          have hcv := conv_from wr w.heap.size g c3 m ds hlm HO.out (by omega)
          have hcm : ¬ c3 = m := by omega
          clear HO
          go_wp2
          go_ret
          exact ⟨by rw [HE.out]; rfl, hB⟩
    · have hlx : k < xs.length := hk
      obtain ⟨g, o, rfl, hc⟩ := (hra.below hB) k hlx
      obtain ⟨x, hxe, hxk⟩ := lim4 hL k hlx
      rw [hxe] at hc
      have hS := rtxt_step hR hlx hL
      rw [hxe] at hS
      have HS := Lib.hid hS
      have hown := hO.row (n := ds.length) (d8_len ds)
      have hsz := hB.size
      have hdb : ds.length ≤ 400000 := by omega
      have hw1 : IntKind.u8.wrap (48 + (x : Int) / 1000) = 48 + (x : Int) / 1000 := IntWalk.u8_in _ (by omega)
      have hw2 : IntKind.u8.wrap (48 + (x : Int) / 100 % 10) = 48 + (x : Int) / 100 % 10 := IntWalk.u8_in _ (by omega)
      have hw3 : IntKind.u8.wrap (48 + (x : Int) / 10 % 10) = 48 + (x : Int) / 10 % 10 := IntWalk.u8_in _ (by omega)
      have hw4 : IntKind.u8.wrap (48 + (x : Int) % 10) = 48 + (x : Int) % 10 := IntWalk.u8_in _ (by omega)
      clear hR hO hS hxe hdl hc3
      rw [show ((k + 1 : Nat) : Int) - 1 = (k : Int) by omega]
      go_wp2_with (at_builtin; refine wpList_append_own _ rfl _ _ 94 rfl w.heap.size 5 i0 (.int .u8 0) 1 1 Tryz.underlying94 hi hz0 hz1 hz2 rfl (by decide) _ _ _ rfl (hown.alloc _) ⟨wr.heap.size, 0, none⟩ 4 4 _ rfl rfl (cells_four _ _ _ _ _ _) ?c2 ?c3 ?c4 ?c5 ?_)
      case c2 => simp [Value.oneCell']
      case c3 => unfold maxLen; omega
      case c4 => omega
      case c5 => first | omega | (simp; omega)
      intro v' w4 hown' hgrow _
      have hB4 : Below w.heap.size w w4 := (hB.alloc hsz _).grown hgrow (by simp; omega) (fun z e => (hown.lt z e).1)
      have hO4 := Own.more (ys := d8 (quad x)) hown' (quad_cells (by omega) (by omega) (by omega) (by omega)) (d8_len ds).symm rfl
      rw [← d8_app] at hO4
      have HO1 := Lib.hid hO4
      clear hown hown' hgrow hO4 hw1 hw2 hw3 hw4
      go_wp2
      go_roundw
      case rel => exact ⟨k, ds ++ quad x, by omega, rfl, HO1.out, HS.out, hB4⟩
      case measure => simp [RowKit.intOf]
end Go.Proofs.YtkjdmjglpbnmoaaGreatDoor

namespace Go.Proofs.YtkjdmjglpbnmoaaGreatDoor
open Go.RowKit Go.Lib

theorem rnd_ratio {A B A' B' : Nat} (hB : 0 < B) (hB' : 0 < B') (h : A * B' = A' * B) : rnd A B = rnd A' B' :=
  Nat.le_antisymm (rnd_mono hB hB' (by omega)) (rnd_mono hB' hB (by omega))
/-- Texts of digits of one length and one number are one text. -/
theorem pv_inj : ∀ {l m : List UInt8}, Dec l → Dec m → l.length = m.length → pv l = pv m → l = m
  | [], [], _, _, _, _ => rfl
  | c :: l, d :: m, hl, hm, hlen, hv => by
    have h1 := hl c (List.mem_cons_self ..)
    have h2 := hm d (List.mem_cons_self ..)
    have hl' : Dec l := fun x hx => hl x (List.mem_cons_of_mem _ hx)
    have hm' : Dec m := fun x hx => hm x (List.mem_cons_of_mem _ hx)
    have hlen' : l.length = m.length := by simpa using hlen
    rw [pv_cons, pv_cons, hlen'] at hv
    have b1 := pv_lt hl'
    have b2 := pv_lt hm'
    rw [hlen'] at b1
    have e := Nat.pow_pos (n := m.length) (show 0 < 10 by omega)
    have hcd : c.toNat - 48 = d.toNat - 48 := by
      have q1 : ((c.toNat - 48) * 10 ^ m.length + pv l) / 10 ^ m.length = c.toNat - 48 := by
        rw [Nat.mul_comm, Nat.mul_add_div e, Nat.div_eq_of_lt b1, Nat.add_zero]
      have q2 : ((d.toNat - 48) * 10 ^ m.length + pv m) / 10 ^ m.length = d.toNat - 48 := by
        rw [Nat.mul_comm, Nat.mul_add_div e, Nat.div_eq_of_lt b2, Nat.add_zero]
      rw [← q1, ← q2, hv]
    have : c = d := UInt8.toNat_inj.1 (by omega)
    subst this
    rw [pv_inj hl' hm' hlen' (by omega)]
theorem pv_split (l : List UInt8) (k : Nat) : pv l = pv (l.take k) * 10 ^ (l.drop k).length + pv (l.drop k) := by
  rw [← pv_append, List.take_append_drop]
theorem decs_pos_len (n : Nat) : 1 ≤ (decs n).length := by rw [← ahead_step, List.length_append]; simp
/-- A text without noughts ahead, but for the last digit, is its number's. -/
theorem decs_strip {l : List UInt8} {i : Nat} (hd : Dec l) (hi : i < l.length) (h0 : ∀ j, j < i → l[j]? = some 48) (h1 : i + 1 = l.length ∨ l[i] ≠ 48) : l.drop i = decs (pv l) := by
  have hv : pv l = pv (l.drop i) := by
    have ht : l.take i = List.replicate i 48 := by
      refine List.eq_replicate_iff.2 ⟨by rw [List.length_take]; omega, fun b hb => ?_⟩
      obtain ⟨j, hj, e⟩ := List.getElem_of_mem hb
      rw [List.length_take] at hj
      rw [List.getElem_take] at e
      have := h0 j (by omega)
      rw [List.getElem?_eq_getElem (by omega)] at this
      rw [← e]
      exact Option.some.inj this
    rw [pv_split l i, ht, pv_zeros, Nat.zero_mul, Nat.zero_add]
  rw [hv]
  have hdd := dec_drop hd i
  have hlen : (l.drop i).length = l.length - i := List.length_drop
  refine pv_inj hdd (dec_decs _) ?_ (pv_decs _).symm
  have hlt := pv_lt hdd
  have h2 : (decs (pv (l.drop i))).length ≤ (l.drop i).length := (decs_le (by omega)).2 hlt
  rcases h1 with h1 | h1
  · have := decs_pos_len (pv (l.drop i)); omega
  · rcases Nat.lt_or_ge (decs (pv (l.drop i))).length (l.drop i).length with h3 | h3
    · exfalso
      have hpos := decs_pos_len (pv (l.drop i))
      have h4 := (decs_le (n := pv (l.drop i)) (k := (l.drop i).length - 1) (by omega)).1 (by omega)
      have he : l.drop i = l[i] :: l.drop (i + 1) := List.drop_eq_getElem_cons hi
      rw [he, pv_cons, List.length_cons, Nat.add_sub_cancel] at h4
      have hb := hd l[i] (List.getElem_mem hi)
      have : 1 ≤ l[i].toNat - 48 := by
        rcases Nat.eq_zero_or_pos (l[i].toNat - 48) with h5 | h5
        · exact absurd (UInt8.toNat_inj.1 (show l[i].toNat = (48 : UInt8).toNat by show _ = 48; omega)) h1
        · exact h5
      have h6 : 1 * 10 ^ (l.drop (i + 1)).length ≤ (l[i].toNat - 48) * 10 ^ (l.drop (i + 1)).length := Nat.mul_le_mul_right _ this
      omega
    · omega
/-- The text that Fixed writes, out of any digits that are long enough. -/
theorem fix_strip {l : List UInt8} {i k p : Nat} (hd : Dec l) (hk : l.length = k + p) (hi : i < k) (h0 : ∀ j, j < i → l[j]? = some 48) (h1 : i + 1 = k ∨ l[i]? ≠ some 48) :
    fixT (decs (pv l)) p = if p = 0 then (l.take k).drop i else (l.take k).drop i ++ 46 :: l.drop k := by
  have hlt : (l.take k).length = k := by rw [List.length_take]; omega
  have hs : (l.take k).drop i = decs (pv (l.take k)) := by
    refine decs_strip (dec_take hd k) (by omega) (fun j hj => by rw [List.getElem?_take_of_lt (by omega)]; exact h0 j hj) ?_
    rcases h1 with h1 | h1
    · exact Or.inl (by omega)
    · refine Or.inr (fun e => h1 ?_)
      rw [List.getElem_take] at e
      rw [List.getElem?_eq_getElem (by omega), e]
  by_cases hp : p = 0
  · subst hp
    rw [if_pos rfl, fixT, if_pos rfl, hs, List.take_of_length_le (by omega)]
  · rw [if_neg hp, fixT, if_neg hp, hs]
    have hsp := pv_split l k
    have hdl : (l.drop k).length = p := by rw [List.length_drop]; omega
    rw [hdl] at hsp
    have hb := pv_lt (dec_drop hd k)
    rw [hdl] at hb
    have e10 := Nat.pow_pos (n := p) (show 0 < 10 by omega)
    have key : padT (decs (pv l)) p = decs (pv (l.take k)) ++ l.drop k := by
      have hdp : Dec (padT (decs (pv l)) p) := dec_append.2 ⟨dec_noughts _, dec_decs _⟩
      have hdr : Dec (decs (pv (l.take k)) ++ l.drop k) := dec_append.2 ⟨dec_decs _, dec_drop hd k⟩
      refine pv_inj hdp hdr ?_ ?_
      · rw [padT, List.length_append, List.length_replicate, List.length_append, hdl]
        have a1 := decs_pos_len (pv (l.take k))
        generalize hw : pv (l.take k) = wv at *
        obtain ⟨L, hL⟩ : ∃ L, (decs wv).length = L := ⟨_, rfl⟩
        rw [hL] at a1 ⊢
        rcases Nat.eq_zero_or_pos wv with h0 | h0
        · subst h0
          have : L = 1 := by rw [← hL]; rfl
          have h2 : (decs (pv l)).length ≤ p := (decs_le (by omega)).2 (by omega)
          omega
        · -- exact length
          have u1 := (decs_le (n := wv) (k := L) a1).1 (by omega)
          have u2 : (decs (pv l)).length ≤ L + p := (decs_le (by omega)).2 (by
            rw [hsp, Nat.pow_add]
            have : (wv + 1) * 10 ^ p ≤ 10 ^ L * 10 ^ p := Nat.mul_le_mul_right _ (by omega)
            rw [Nat.add_mul] at this
            omega)
          have u3 : L + p ≤ (decs (pv l)).length := by
            rcases Nat.lt_or_ge (decs (pv l)).length (L + p) with h3 | h3
            · exfalso
              have h4 := (decs_le (n := pv l) (k := L + p - 1) (by omega)).1 (by omega)
              rcases Nat.eq_zero_or_pos (L - 1) with h5 | h5
              · rw [show L + p - 1 = p by omega, hsp] at h4
                have : 1 * 10 ^ p ≤ wv * 10 ^ p := Nat.mul_le_mul_right _ h0
                omega
              · have h6 : ¬ wv < 10 ^ (L - 1) := fun h => by
                  have := (decs_le (n := wv) (k := L - 1) h5).2 h
                  omega
                rw [show L + p - 1 = (L - 1) + p by omega, Nat.pow_add, hsp] at h4
                have : 10 ^ (L - 1) * 10 ^ p ≤ wv * 10 ^ p := Nat.mul_le_mul_right _ (by omega)
                omega
            · exact h3
          omega
      · rw [padT, pv_noughts, pv_decs, pv_append, pv_decs, hdl]
        exact hsp
    rw [key, List.length_append, hdl, Nat.add_sub_cancel, List.take_left', List.drop_left'] <;> rfl
end Go.Proofs.YtkjdmjglpbnmoaaGreatDoor

namespace Go.Proofs.YtkjdmjglpbnmoaaGreatDoor
open Go.RowKit Go.Lib

def slen : Value → Nat | .string s => s.size | _ => 0
/-- The digits ahead of the point, and those behind it. -/
def RDig (w : World) (N D : Nat) (e : Ending) (w' : World) : Prop :=
  ∃ (S1 S2 : ByteArray) (wn : Nat), e = .returned (.tuple #[.string S1, .string S2]) ∧ Hid (S1.data.toList = decs wn) ∧ Hid (Dec S2.data.toList) ∧ S1.size ≤ 3000 ∧ S2.size ≤ 1100 ∧ Hid ((wn * 10 ^ S2.size + pv S2.data.toList) * D = N * 10 ^ S2.size) ∧ Below w.heap.size w w'
theorem rtext_dec (A : Option Addr) (ca z : Nat) (w : World) (h : (dig D4 z).length ≤ 100000) (hra : Rd .i64 w A (dig D4 z)) :
    Calls Tryz.prog 62 #[.slice A (dig D4 z).length ca] w fun e w' => e = .returned (.string ⟨(decs z).toArray⟩) ∧ Below w.heap.size w w' := by
  have h := rtext_any A ca (dig D4 z) w (dig_norm (by decide) z) h hra
  rwa [dig_vl (by decide)] at h
theorem decs_bound {z k : Nat} (hk : 1 ≤ k) (h : z < 10 ^ k) : (decs z).length ≤ k := (decs_le hk).2 h
set_option maxRecDepth 100000 in
set_option maxHeartbeats 4000000 in
theorem rdigits_up (b : Nat) (q : Nat) (w : World) (hb : b < 18446744073709551616) (h : mag b < 9218868437227405312) (he : expF (mag b) = (q : Int)) :
    Calls Tryz.prog 31 #[.float .f64 b] w (RDig w (amN (mag b)) (amD (mag b))) := by
  have c1 := fun W => rparts_yes b W hb h
  have hq := (expF_bd h).2
  have hml := manF_lt (r := mag b)
  unfold amN amD
  rw [he] at c1 hq ⊢
  obtain ⟨m, hm⟩ : ∃ m, manF (mag b) = m := ⟨_, rfl⟩
  rw [hm] at c1 hml
  rw [hm, show ((q : Int)).toNat = q by omega, show (-(q : Int)).toNat = 0 by omega, Nat.pow_zero]
  have CP := Lib.hid c1
  have CS := Lib.hid (fun W => small_any m W (by omega))
  have CPw := Lib.hid (fun W => rpow_b2 q W (by omega))
  have l1 := dig4_powb (b := 2) (j := q) (by omega) (by omega)
  have l2 : (dig D4 m).length ≤ 16 := (dig_len_le (by decide) m 16).2 (Nat.lt_trans (show m < 10000000000000000000000000000000000000000 by omega) (by decide))
  have l3 := dlen_mul l2 l1
  have cM := fun (A1 A2 : Option Addr) (c1 c2 : Nat) (W : World) (hr1 : Rd .i64 W A1 (dig D4 m)) (hr2 : Rd .i64 W A2 (dig D4 (2 ^ q))) => rmul_any A1 A2 c1 c2 (dig D4 m) (dig D4 (2 ^ q)) W (lim4p _) (lim4p _) (by omega) (by omega) hr1 hr2
  simp only [dig_vl (show 2 ≤ D4 by decide)] at cM
  have CM := Lib.hid cM
  have CT := Lib.hid (fun (A : Option Addr) (ca : Nat) (W : World) (hr : Rd .i64 W A (dig D4 (m * 2 ^ q))) => rtext_dec A ca (m * 2 ^ q) W (by omega) hr)
  have hz : (decs (m * 2 ^ q)).length ≤ 3000 := Nat.le_trans (decs_bound (k := 16 + q) (by omega) (by
    rw [Nat.pow_add]
    exact Nat.mul_lt_mul_of_lt_of_le (by omega) (Nat.pow_le_pow_left (by omega) _) (Nat.pow_pos (by omega)))) (by omega)
  clear c1 cM hm he h
  go_enter Tryz.func31, Tryz.ntmps31
  go_wp2_with fail
  refine (CP.out _).mono ?_
  rintro e w' ⟨rfl, rfl⟩
  go_wp2_with fail
  refine (CS.out _).mono ?_
  rintro e w1 ⟨v, rfl, o, nb⟩
  obtain ⟨A1, d1, rfl, _⟩ := o.slice_
  have Q1 := Lib.hid o.rd
  have hB := nb
  clear o nb
  go_wp2_with fail
  refine (CPw.out _).mono ?_
  rintro e w2 ⟨v, rfl, o, nb⟩
  obtain ⟨A2, d2, rfl, _⟩ := o.slice_
  have Q1 := Lib.hid (Q1.out.below nb)
  have Q2 := Lib.hid o.rd
  have hB := hB.trans (nb.mono hB.size)
  clear o nb
  go_wp2_with fail
  refine (CM.out _ _ _ _ _ Q1.out Q2.out).mono ?_
  rintro e w3 ⟨v, rfl, o, nb⟩
  obtain ⟨A3, d3, rfl, _⟩ := o.slice_
  have Q3 := Lib.hid o.rd
  have hB := hB.trans (nb.mono hB.size)
  clear o nb Q1 Q2
  go_wp2_with fail
  refine (CT.out _ _ _ Q3.out).mono ?_
  rintro e w4 ⟨rfl, nb⟩
  have hB := hB.trans (nb.mono hB.size)
  clear nb
  go_wp2_with fail
  go_ret2
  refine ⟨⟨(decs (m * 2 ^ q)).toArray⟩, ⟨#[]⟩, m * 2 ^ q, rfl, Lib.hid rfl, Lib.hid (fun c hc => absurd hc (by simp)), by show (decs _).toArray.size ≤ _; rw [List.size_toArray]; exact hz, by decide, Lib.hid ?_, hB⟩
  show (m * 2 ^ q * 10 ^ 0 + 0) * 1 = m * 2 ^ q * 10 ^ 0
  omega
theorem rdig_fin {S : ByteArray} {i k q z m : Nat} {w w' : World} (hd : Dec S.data.toList) (hk : S.size = k + q) (hik : i < k) (h0 : ∀ j, j < i → S.data.toList[j]? = some 48) (h1 : i + 1 = k ∨ S.data.toList[i]? ≠ some 48) (hv : pv S.data.toList = z) (e10 : z * 2 ^ q = m * 10 ^ q) (hsz : S.size ≤ 2000) (hq : q ≤ 1100) (hB : Below w.heap.size w w') :
    RDig w m (2 ^ q) (.returned (.tuple #[.string (S.extract i k), .string (S.extract k S.size)])) w' := by
  have hlen : S.data.toList.length = k + q := by rw [ba_len]; exact hk
  have e1 : (S.extract i k).data.toList = (S.data.toList.take k).drop i := by rw [Lib.extract_data, List.drop_take]
  have e2 : (S.extract k S.size).data.toList = S.data.toList.drop k := by rw [Lib.extract_data, List.take_of_length_le (by rw [List.length_drop]; omega)]
  have hl2 : (S.extract k S.size).size = q := by rw [← ba_len, e2, List.length_drop]; omega
  have htk : (S.data.toList.take k).length = k := by rw [List.length_take]; omega
  refine ⟨_, _, pv (S.data.toList.take k), rfl, Lib.hid ?_, Lib.hid (by rw [e2]; exact dec_drop hd k), ?_, by omega, Lib.hid ?_, hB⟩
  · rw [e1]
    refine decs_strip (dec_take hd k) (by omega) (fun j hj => by rw [List.getElem?_take_of_lt (by omega)]; exact h0 j hj) ?_
    rcases h1 with h1 | h1
    · exact Or.inl (by omega)
    · refine Or.inr (fun e => h1 ?_)
      rw [List.getElem_take] at e
      rw [List.getElem?_eq_getElem (by omega), e]
  · rw [ByteArray.size_extract]; omega
  · rw [hl2, e2]
    have hsp := pv_split S.data.toList k
    rw [List.length_drop, hlen, Nat.add_sub_cancel_left, hv] at hsp
    rw [← hsp]
    exact e10
set_option maxRecDepth 100000 in
set_option maxHeartbeats 4000000 in
theorem rdigits_down (b : Nat) (q : Nat) (w : World) (hb : b < 18446744073709551616) (h : mag b < 9218868437227405312) (hq0 : 0 < q) (he : expF (mag b) = -(q : Int)) :
    Calls Tryz.prog 31 #[.float .f64 b] w (RDig w (amN (mag b)) (amD (mag b))) := by
  have c1 := fun W => rparts_yes b W hb h
  have hq := (expF_bd h).1
  have hml := manF_lt (r := mag b)
  unfold amN amD
  rw [he] at c1 hq ⊢
  obtain ⟨m, hm⟩ : ∃ m, manF (mag b) = m := ⟨_, rfl⟩
  rw [hm] at c1 hml
  rw [hm, show (-(q : Int)).toNat = 0 by omega, show (-(-(q : Int))).toNat = q by omega, Nat.pow_zero, Nat.mul_one]
  have CP := Lib.hid c1
  have CS := Lib.hid (fun W => small_any m W (by omega))
  have cW := fun W => rpow_b5 q W (by omega)
  have CPw := Lib.hid cW
  have l1 := dig4_powb (b := 5) (j := q) (by omega) (by omega)
  have l2 : (dig D4 m).length ≤ 16 := (dig_len_le (by decide) m 16).2 (Nat.lt_trans (show m < 10000000000000000000000000000000000000000 by omega) (by decide))
  have l3 := dlen_mul l2 l1
  have cM := fun (A1 A2 : Option Addr) (c1 c2 : Nat) (W : World) (hr1 : Rd .i64 W A1 (dig D4 m)) (hr2 : Rd .i64 W A2 (dig D4 (5 ^ q))) => rmul_any A1 A2 c1 c2 (dig D4 m) (dig D4 (5 ^ q)) W (lim4p _) (lim4p _) (by omega) (by omega) hr1 hr2
  simp only [dig_vl (show 2 ≤ D4 by decide)] at cM
  have CM := Lib.hid cM
  have hz : (decs (m * 5 ^ q)).length ≤ 16 + q := decs_bound (k := 16 + q) (by omega) (by
    rw [Nat.pow_add]
    exact Nat.mul_lt_mul_of_lt_of_le (by omega) (Nat.pow_le_pow_left (by omega) _) (Nat.pow_pos (by omega)))
  have cT := fun (A : Option Addr) (ca : Nat) (W : World) (hr : Rd .i64 W A (dig D4 (m * 5 ^ q))) => rtext_dec A ca (m * 5 ^ q) W (by omega) hr
  have e10 : m * 5 ^ q * 2 ^ q = m * 10 ^ q := by rw [Nat.mul_assoc, ← Nat.mul_pow]
  obtain ⟨z, hze⟩ : ∃ z, m * 5 ^ q = z := ⟨_, rfl⟩
  rw [hze] at cT cM hz e10 l3
  have CM := Lib.hid cM
  obtain ⟨T, hT⟩ : ∃ T : ByteArray, (⟨(decs z).toArray⟩ : ByteArray) = T := ⟨_, rfl⟩
  have hTl : T.data.toList = decs z := by rw [← hT]
  have hTs : T.size ≤ 16 + q := by rw [← ba_len, hTl]; exact hz
  have hT1 : 1 ≤ T.size := by rw [← ba_len, hTl]; exact decs_pos_len z
  rw [hT] at cT
  have CT := Lib.hid cT
  have HT := Lib.hid hTl
  have HE := Lib.hid e10
  have hkn : ¬ (0 : Int) ≤ -(q : Int) := by omega
  clear c1 cM hm he h cW cT hTl hT hze e10 hz
  go_enter Tryz.func31, Tryz.ntmps31
  go_wp2_with fail
  refine (CP.out _).mono ?_
  rintro e w' ⟨rfl, rfl⟩
  go_wp2_with fail
  refine (CS.out _).mono ?_
  rintro e w1 ⟨v, rfl, o, nb⟩
  obtain ⟨A1, d1, rfl, _⟩ := o.slice_
  have Q1 := Lib.hid o.rd
  have hB := nb
  clear o nb
  go_wp2_with fail
  refine (CPw.out _).mono ?_
  rintro e w2 ⟨v, rfl, o, nb⟩
  obtain ⟨A2, d2, rfl, _⟩ := o.slice_
  have Q1 := Lib.hid (Q1.out.below nb)
  have Q2 := Lib.hid o.rd
  have hB := hB.trans (nb.mono hB.size)
  clear o nb
  go_wp2_with fail
  refine (CM.out _ _ _ _ _ Q1.out Q2.out).mono ?_
  rintro e w3 ⟨v, rfl, o, nb⟩
  obtain ⟨A3, d3, rfl, _⟩ := o.slice_
  have Q3 := Lib.hid o.rd
  have hB := hB.trans (nb.mono hB.size)
  clear o nb Q1 Q2
  go_wp2_with fail
  refine (CT.out _ _ _ Q3.out).mono ?_
  rintro e w4 ⟨rfl, nb⟩
  have hB := hB.trans (nb.mono hB.size)
  clear nb Q3
  go_wp2_with fail
  go_loop [8] (fun sv => ∃ (S : ByteArray) (c : Nat), sv = .string S ∧ S.data.toList = List.replicate c 48 ++ decs z ∧ 1 ≤ S.size ∧ S.size ≤ 60 + q) (fun sv => 2000 - slen sv)
  case atStart => exact ⟨T, 0, rfl, by rw [HT.out]; rfl, hT1, by omega⟩
  case round =>
    obtain ⟨S, c, rfl, hS, hS1, hS2⟩ := hrel
    by_cases hle : S.size ≤ q
    · have HS := Lib.hid hS
      clear hS
      go_wp2_with fail
      go_round
      case rel => exact ⟨_, 30 + c, rfl, by
        rw [ByteArray.data_append, Array.toList_append, HS.out, ← List.append_assoc, ← List.replicate_append_replicate]
        rfl, by rw [ByteArray.size_append]; omega, by rw [ByteArray.size_append]; show 30 + S.size ≤ _; omega⟩
      case measure =>
        simp only [slen, ByteArray.size_append]
        show 2000 - (30 + S.size) < 2000 - S.size
        omega
    · have hgt : ¬ (S.size : Int) ≤ (q : Int) := by omega
      obtain ⟨k, hk⟩ : ∃ k, S.size = k + q := ⟨S.size - q, by omega⟩
      have hk1 : 1 ≤ k := by omega
      have hki : (S.size : Int) + -(q : Int) = (k : Int) := by omega
      have hkl : k ≤ S.size := by omega
      have hdS : Dec S.data.toList := by rw [hS]; exact dec_append.2 ⟨dec_noughts _, dec_decs _⟩
      have hvS : pv S.data.toList = z := by rw [hS, pv_noughts, pv_decs]
      have hbyte : ∀ j (hj : j < S.size), S.data.toList[j]? = some (S[j]'hj) := fun j hj => by
        rw [Array.getElem?_toList, Array.getElem?_eq_getElem hj]
        rfl
      have HD := Lib.hid hdS
      have HV := Lib.hid hvS
      have HBY := Lib.hid hbyte
      have HK := Lib.hid hk
      clear hS hdS hvS hbyte hk hle
      go_wp2_with fail
      go_loop [10] (fun iv => ∃ i : Nat, iv = .int .i64 (i : Int) ∧ i < k ∧ ∀ j, j < i → S.data.toList[j]? = some 48) (fun iv => k - (RowKit.intOf iv).toNat)
      case atStart => exact ⟨0, rfl, by omega, fun j hj => absurd hj (Nat.not_lt_zero j)⟩
      case round =>
        obtain ⟨i, rfl, hik, h0⟩ := hrel
        have H0 := Lib.hid h0
        clear h0
        by_cases hi1 : i + 1 < k
        · have his : i < S.size := by omega
          by_cases h48 : (S[i]'his).toNat = 48
          · have hb48 : (((S[i]'his).toNat : Int) == 48) = true := by rw [beq_iff_eq]; omega
            have H48 := Lib.hid h48
            clear h48
            go_wp2_with fail
            go_round
            case rel => exact ⟨i + 1, by go_num, by omega, fun j hj => by
              rcases Nat.lt_or_ge j i with h | h
              · exact H0.out j h
              · obtain rfl : j = i := by omega
                rw [HBY.out j his]
                exact congrArg some (UInt8.toNat_inj.1 H48.out)⟩
            case measure => simp [RowKit.intOf]; omega
          · have hb48 : (((S[i]'his).toNat : Int) == 48) = false := by rw [beq_eq_false_iff_ne]; omega
            have H48 := Lib.hid h48
            clear h48
            have g1 : (i : Int) ≤ (k : Int) := by omega
            have g2 : (k : Int) ≤ (S.size : Int) := by omega
            have g0 : (0 : Int) ≤ (i : Int) := by omega
            have g3 : (0 : Int) ≤ (k : Int) := by omega
            go_wp2_with fail
            go_quiet (fail)
            go_wp2
            go_ret2
            exact rdig_fin HD.out HK.out hik H0.out (Or.inr (fun e => H48.out (by rw [HBY.out i his] at e; rw [Option.some.inj e]; rfl))) HV.out HE.out (by omega) (by omega) (below_drewN hB _)
        · have hi2 : ¬ (i : Int) + 1 < (k : Int) := by omega
          have g1 : (i : Int) ≤ (k : Int) := by omega
          have g2 : (k : Int) ≤ (S.size : Int) := by omega
          have g0 : (0 : Int) ≤ (i : Int) := by omega
          have g3 : (0 : Int) ≤ (k : Int) := by omega
          go_wp2_with fail
          go_quiet (fail)
          go_wp2
          go_ret2
          exact rdig_fin HD.out HK.out hik H0.out (Or.inl (by omega)) HV.out HE.out (by omega) (by omega) (below_drewN hB _)
theorem rdigits_any (b : Nat) (w : World) (hb : b < 18446744073709551616) (h : mag b < 9218868437227405312) :
    Calls Tryz.prog 31 #[.float .f64 b] w (RDig w (amN (mag b)) (amD (mag b))) := by
  by_cases he : 0 ≤ expF (mag b)
  · exact rdigits_up b (expF (mag b)).toNat w hb h (by omega)
  · exact rdigits_down b (-expF (mag b)).toNat w hb h (by omega) (by omega)
end Go.Proofs.YtkjdmjglpbnmoaaGreatDoor

namespace Go.Proofs.YtkjdmjglpbnmoaaGreatDoor
open Go.RowKit Go.Lib

/-- '[]byte(s)': a new row whose first cells are the bytes. -/
theorem cbytes_new (W : World) (s : ByteArray) : ∃ cap row mk, s.size ≤ cap ∧
    (convert 9 94 (.string s)).run Tryz.prog W = .ok (.slice (some ⟨W.heap.size, 0, none⟩) s.size cap) (W.drew.alloc (.cells row 5 mk)) ∧
    (∀ j, j < s.size → row[j]? = some (.int .u8 (s.data.toList.getD j 0).toNat)) ∧ (∀ X : World, ∀ j, j < s.size → (X.alloc (.cells row 5 mk)).frozen? ⟨X.heap.size, j, none⟩ = false) := by
  refine ⟨_, _, _, ?_, run_bytes_of_string (P := Tryz.prog) W 9 94 5 s Tryz.underlying9 Tryz.underlying94 Tryz.underlying5, ?_, ?_⟩
  · exact grownCap_ge _ _ _ _
  · intro j hj
    have h : j < s.data.size := hj
    rw [bytesRow_at s _ j h]
    rw [List.getD_eq_getElem?_getD, Array.getElem?_toList, Array.getElem?_eq_getElem h]
    rfl
  · intro X j hj
    rw [World.frozen?_alloc_mark]
    have : (bytesRow s (grownCap W s.size 0 5)).size ≥ s.size := by
      unfold bytesRow
      rw [Array.size_append, Array.size_map]
      exact Nat.le_add_right _ _
    simp only [Bool.and_eq_false_iff, decide_eq_false_iff_not]
    left; omega
/-- A block's first cells are these bytes, and may be written. -/
def RowE (W : World) (R : Nat) (L : List UInt8) : Prop := ∀ j (_ : j < L.length), W.cell? ⟨R, j, none⟩ = some (.int .u8 ((L[j].toNat : Nat) : Int)) ∧ W.frozen? ⟨R, j, none⟩ = false
theorem RowE.put {W : World} {R k : Nat} {pre post : List UInt8} {c x : UInt8} (h : RowE W R (pre ++ c :: post)) (hk : pre.length = k) : RowE (W.setCell ⟨R, k, none⟩ (.int .u8 ((x.toNat : Nat) : Int))) R (pre ++ x :: post) := by
  intro j hj
  have hj' : j < (pre ++ c :: post).length := by simpa using hj
  obtain ⟨h1, h2⟩ := h j hj'
  refine ⟨?_, by rw [World.frozen?_setCell]; exact h2⟩
  by_cases e : j = k
  · subst e
    rw [World.cell?_setCell_same' _ _ _ (by rw [h1]; rfl)]
    subst hk
    simp
  · rw [World.cell?_setCell_other _ _ _ _ (fun e2 => e (by injection e2 with _ e3 _; exact e3.symm)), h1]
    congr 3
    rcases Nat.lt_or_ge j pre.length with hl | hl
    · rw [List.getElem_append_left hl, List.getElem_append_left hl]
    · obtain ⟨i, hi⟩ : ∃ i, j - pre.length = i + 1 := ⟨j - pre.length - 1, by omega⟩
      rw [List.getElem_append_right hl, List.getElem_append_right hl]
      simp only [hi, List.getElem_cons_succ]
theorem RowE.str {W : World} {R cap : Nat} {L : List UInt8} (h : RowE W R L) : (convert 94 9 (.slice (some ⟨R, 0, none⟩) L.length cap)).run Tryz.prog W = .ok (.string ⟨L.toArray⟩) W :=
  run_convert_bytes_back (P := Tryz.prog) W 94 9 5 ⟨R, 0, none⟩ cap L Tryz.underlying94 Tryz.underlying5 Tryz.underlying9 (fun j hj => by
    rw [Addr.add_lit, Nat.zero_add, (h j hj).1])
theorem RowE.new {W : World} {s : ByteArray} {L : List UInt8} {row : Array Value} {mk : Nat × Nat} (hL : s.data.toList = L) (h1 : ∀ j, j < s.size → row[j]? = some (.int .u8 (s.data.toList.getD j 0).toNat)) (h2 : ∀ X : World, ∀ j, j < s.size → (X.alloc (.cells row 5 mk)).frozen? ⟨X.heap.size, j, none⟩ = false) :
    RowE (W.alloc (.cells row 5 mk)) W.heap.size L := fun j hj => by
  have hs : j < s.size := by rw [← ba_len, hL]; exact hj
  refine ⟨?_, h2 W j hs⟩
  have h := h1 j hs
  rw [hL, List.getD_eq_getElem?_getD, List.getElem?_eq_getElem hj] at h
  exact (World.cell?_alloc_mark W row 5 mk j).trans h

/-- What Cut answers: the first n digits, rounded by what stands behind; one digit more, if it carries over. -/
structure CutOk (d : List UInt8) (n : Nat) (T : List UInt8) : Prop where
  dec : Dec T
  val : pv T = rnd (pv d * 10 ^ (n - d.length)) (10 ^ (d.length - n))
  len : T.length = n ∨ (T.length = n + 1 ∧ pv T = 10 ^ n)
def CutEnd (w : World) (d : List UInt8) (n : Nat) (e : Ending) (w' : World) : Prop := ∃ T, e = .returned (.string ⟨T.toArray⟩) ∧ CutOk d n T ∧ Below w.heap.size w w'
/-- Is it rounded up? L: the digits with noughts behind them, so that they are n at least. -/
def UpB (L : List UInt8) (n : Nat) : Prop := 10 ^ (L.length - n) < 2 * pv (L.drop n) ∨ (2 * pv (L.drop n) = 10 ^ (L.length - n) ∧ pv (L.take n) % 2 = 1)
theorem cut_val {d L : List UInt8} {n : Nat} (hd : Dec L) (hn : n ≤ L.length) (hL : L = d ++ List.replicate (n - d.length) 48) :
    (UpB L n → rnd (pv d * 10 ^ (n - d.length)) (10 ^ (d.length - n)) = pv (L.take n) + 1) ∧ (¬ UpB L n → rnd (pv d * 10 ^ (n - d.length)) (10 ^ (d.length - n)) = pv (L.take n)) := by
  have e1 : pv d * 10 ^ (n - d.length) = pv L := by rw [hL, pv_append, pv_zeros, List.length_replicate, Nat.add_zero]
  have e2 : d.length - n = L.length - n := by rw [hL, List.length_append, List.length_replicate]; omega
  have hsp := pv_split L n
  have hb := pv_lt (dec_drop hd n)
  rw [List.length_drop] at hsp hb
  rw [e1, e2]
  have e10 := Nat.pow_pos (n := L.length - n) (show 0 < 10 by omega)
  have q1 : pv L / 10 ^ (L.length - n) = pv (L.take n) := by rw [hsp, Nat.mul_comm, Nat.mul_add_div e10, Nat.div_eq_of_lt hb, Nat.add_zero]
  have q2 : pv L % 10 ^ (L.length - n) = pv (L.drop n) := by rw [hsp, Nat.mul_comm, Nat.mul_add_mod, Nat.mod_eq_of_lt hb]
  unfold rnd UpB
  rw [q1, q2]
  exact ⟨fun h => if_pos h, fun h => if_neg h⟩
theorem up_no {L : List UInt8} {n : Nat} (hd : Dec L) (h : L.length ≤ n) : ¬ UpB L n := by
  unfold UpB
  rw [List.drop_of_length_le h, show L.length - n = 0 by omega]
  simp [pv_nil]
theorem drop_cons {L : List UInt8} {n : Nat} (h : n < L.length) : L.drop n = L[n] :: L.drop (n + 1) := List.drop_eq_getElem_cons h
/-- By the first digit behind and the others. -/
theorem up_iff {L : List UInt8} {n : Nat} (hd : Dec L) (h : n < L.length) : UpB L n ↔ (53 < L[n].toNat ∨ (L[n].toNat = 53 ∧ (0 < pv (L.drop (n + 1)) ∨ pv (L.take n) % 2 = 1))) := by
  unfold UpB
  have hb := pv_lt (dec_drop hd (n + 1))
  have hc := hd L[n] (List.getElem_mem h)
  rw [drop_cons h, pv_cons]
  rw [show L.length - n = (L.drop (n + 1)).length + 1 by rw [List.length_drop]; omega, Nat.pow_succ]
  generalize (L.drop (n + 1)).length = t at *
  generalize pv (L.drop (n + 1)) = r at *
  generalize pv (L.take n) = Q at *
  generalize L[n].toNat = c at *
  generalize 10 ^ t = P at *
  obtain ⟨k, rfl⟩ : ∃ k, c = 48 + k := ⟨c - 48, by omega⟩
  rw [Nat.add_sub_cancel_left]
  have hk : k ≤ 9 := by omega
  constructor
  · intro h
    rcases (by omega : k ≤ 4 ∨ k = 5 ∨ 6 ≤ k) with h1 | h1 | h1
    · have : k * P ≤ 4 * P := Nat.mul_le_mul_right _ h1
      omega
    · subst h1; omega
    · omega
  · intro h
    rcases h with h | ⟨h, h2⟩
    · have : 6 * P ≤ k * P := Nat.mul_le_mul_right _ (by omega)
      omega
    · obtain rfl : k = 5 := by omega
      omega
theorem pv_pos_iff {L : List UInt8} (hd : Dec L) : 0 < pv L ↔ ∃ c ∈ L, c ≠ 48 := by
  induction L with
  | nil => simp [pv_nil]
  | cons c l ih =>
    have hc := hd c (List.mem_cons_self ..)
    have ih := ih (fun x hx => hd x (List.mem_cons_of_mem _ hx))
    have e10 := Nat.pow_pos (n := l.length) (show 0 < 10 by omega)
    rw [pv_cons]
    constructor
    · intro h
      by_cases h1 : c = 48
      · subst h1
        have : 0 < pv l := by simpa using h
        obtain ⟨x, hx, hne⟩ := ih.1 this
        exact ⟨x, List.mem_cons_of_mem _ hx, hne⟩
      · exact ⟨c, List.mem_cons_self .., h1⟩
    · rintro ⟨x, hx, hne⟩
      rcases List.mem_cons.1 hx with e | e
      · subst e
        have : 1 ≤ x.toNat - 48 := by
          rcases Nat.eq_zero_or_pos (x.toNat - 48) with h5 | h5
          · exact absurd (UInt8.toNat_inj.1 (show x.toNat = (48 : UInt8).toNat by show _ = 48; omega)) hne
          · exact h5
        have h6 : 1 * 10 ^ l.length ≤ (x.toNat - 48) * 10 ^ l.length := Nat.mul_le_mul_right _ this
        omega
      · have := ih.2 ⟨x, e, hne⟩
        omega
/-- Whether the last digit kept is odd. -/
theorem odd_pos {L : List UInt8} {n : Nat} {c : UInt8} (hd : Dec L) (hn : 0 < n) (hc : L[n - 1]? = some c) : pv (L.take n) % 2 = c.toNat % 2 := by
  obtain ⟨hlt, hce⟩ := List.getElem?_eq_some_iff.1 hc
  have e : L.take n = L.take (n - 1) ++ [c] := by
    have := List.take_succ_eq_append_getElem (l := L) (i := n - 1) hlt
    rwa [Nat.sub_add_cancel hn, hce] at this
  have hcb := hd c (by rw [← hce]; exact List.getElem_mem _)
  rw [e, pv_snoc]
  omega
theorem cut_same {d L : List UInt8} {n : Nat} (hd : Dec L) (hn : n ≤ L.length) (hL : L = d ++ List.replicate (n - d.length) 48) (h : ¬ UpB L n) : CutOk d n (L.take n) :=
  ⟨dec_take hd n, ((cut_val hd hn hL).2 h).symm, Or.inl (by rw [List.length_take]; omega)⟩
theorem cut_up {d L pre : List UInt8} {n j : Nat} {c x : UInt8} (hd : Dec L) (hn : n ≤ L.length) (hL : L = d ++ List.replicate (n - d.length) 48) (h : UpB L n) (ht : L.take n = pre ++ c :: List.replicate j 57) (hc : c.toNat < 57) (hx : x.toNat = c.toNat + 1) : CutOk d n (pre ++ x :: List.replicate j 48) := by
  have hv := (cut_val hd hn hL).1 h
  have hlen : (L.take n).length = n := by rw [List.length_take]; omega
  have hdt := dec_take hd n
  rw [ht] at hv hlen hdt
  obtain ⟨h1, h2⟩ := dec_append.1 hdt
  have hcb := h2 c (List.mem_cons_self ..)
  refine ⟨dec_append.2 ⟨h1, fun b hb => ?_⟩, ?_, Or.inl (by rw [← hlen]; simp)⟩
  · rcases List.mem_cons.1 hb with e | e
    · rw [e]; omega
    · rw [(List.mem_replicate.1 e).2]; decide
  · rw [hv, pv_append, pv_append, pv_cons, pv_cons, pv_zeros, List.length_cons, List.length_cons, List.length_replicate, List.length_replicate, hx]
    have h9 : pv (List.replicate j (57 : UInt8)) + 1 = 10 ^ j := by
      clear hv hlen hdt h2 ht
      induction j with
      | zero => rfl
      | succ j ih =>
        rw [List.replicate_succ, pv_cons, List.length_replicate, Nat.pow_succ]
        show (57 - 48) * 10 ^ j + _ + 1 = _
        omega
    have e : (c.toNat + 1 - 48) * 10 ^ j = (c.toNat - 48) * 10 ^ j + 10 ^ j := by rw [← Nat.succ_mul]; congr 1; omega
    rw [e]
    omega
theorem cut_over {d L : List UInt8} {n : Nat} (hd : Dec L) (hn : n ≤ L.length) (hL : L = d ++ List.replicate (n - d.length) 48) (h : UpB L n) (ht : L.take n = List.replicate n 57) : CutOk d n (49 :: List.replicate n 48) := by
  have hv := (cut_val hd hn hL).1 h
  rw [ht] at hv
  have h9 : ∀ j, pv (List.replicate j (57 : UInt8)) + 1 = 10 ^ j := fun j => by
    induction j with
    | zero => rfl
    | succ j ih =>
      rw [List.replicate_succ, pv_cons, List.length_replicate, Nat.pow_succ]
      show (57 - 48) * 10 ^ j + _ + 1 = _
      omega
  have ht := pv_ten n
  refine ⟨fun c hc => ?_, by rw [hv, h9, ht], Or.inr ⟨by simp, ht⟩⟩
  rcases List.mem_cons.1 hc with e | e
  · rw [e]; decide
  · rw [(List.mem_replicate.1 e).2]; decide
end Go.Proofs.YtkjdmjglpbnmoaaGreatDoor
