/- Several texts in one (Contracts of layer 3: Read of any power: the nearest float; Plain: Sci's digits are told by their conditions; floats in order. No walk here; Contracts of layer 3: what its laws share: same, digits one by one; Contracts of layer 3: the fixed examples of its laws; Contracts of layer 3: what its laws share: naturals as floats, digits; The definition of layer 3: Parts, above; The definition of layer 2: Text; The definition of layer 2: Parse; The definition of layer 3: Read, by halves; The definition of layer 3: Read's bisection; The walk of the law DecReads). -/
import Derived.Test.YtkjdmjglpbnmoaaGreatDoorPk5
namespace Go.Proofs.YtkjdmjglpbnmoaaGreatDoor
open Go.RowKit Go.Lib

theorem big310 (c d : Nat) (hc : c = 310) (hd : d = 1025) : 2 ^ d ≤ 10 ^ c := by
  have h : 2 ^ 205 ≤ 10 ^ 62 := by decide
  have h2 := Nat.pow_le_pow_left h 5
  rwa [← Nat.pow_mul, ← Nat.pow_mul, show 205 * 5 = d by omega, show 62 * 5 = c by omega] at h2
theorem big325 (c d : Nat) (hc : c = 325) (hd : d = 1075) : 2 ^ d ≤ 10 ^ c := by
  have h : 2 ^ 215 ≤ 10 ^ 65 := by decide
  have h2 := Nat.pow_le_pow_left h 5
  rwa [← Nat.pow_mul, ← Nat.pow_mul, show 215 * 5 = d by omega, show 65 * 5 = c by omega] at h2
theorem V_inf (c : Nat) (hc : c = 2046) : V 9218868437227405312 = 4503599627370496 * 2 ^ c := by
  have h := V_at c 4503599627370496 (by omega) (Or.inr (by omega))
  rwa [show c * 4503599627370496 + 4503599627370496 = 9218868437227405312 by omega] at h
/-- What is as great as ten to the 310 is infinity. -/
theorem near_top {n D r : Nat} (hn : 0 < n) (c : Nat) (hc : c = 310) (h : Near (2 * (n * 10 ^ c) * S1074) 1 r) : r = 9218868437227405312 := by
  rcases Nat.lt_or_ge r 9218868437227405312 with hlt | hge
  · exfalso
    have h1 := h.hi hlt
    have h2 := V_lt hlt
    have h3 := V_le (show r + 1 ≤ 9218868437227405312 by omega)
    obtain ⟨f, hf⟩ : ∃ f : Nat, f = 1074 := ⟨_, rfl⟩
    rw [S_eq f hf] at h1
    obtain ⟨d, hd⟩ : ∃ d : Nat, d = 1025 := ⟨_, rfl⟩
    have h4 := big310 c d hc hd
    have h5 := V_inf (d - 51 + f - 2) (by omega)
    have h6 : 4503599627370496 * 2 ^ (d - 51 + f - 2) = 2 ^ (d - 1) * 2 ^ f := by
      rw [show (4503599627370496 : Nat) = 2 ^ 52 by decide, ← Nat.pow_add, ← Nat.pow_add, show 52 + (d - 51 + f - 2) = d - 1 + f by omega]
    have h7 : 2 ^ d = 2 * 2 ^ (d - 1) := by rw [← Nat.pow_succ', show (d - 1).succ = d by omega]
    have h8 : 2 * (1 * 2 ^ (d - 1)) * 2 ^ f ≤ 2 * (n * 10 ^ c) * 2 ^ f := Nat.mul_le_mul_right _ (Nat.mul_le_mul_left _ (Nat.mul_le_mul hn (by omega)))
    rw [Nat.one_mul, Nat.mul_assoc] at h8
    rw [h5, h6] at h2 h3
    rw [Nat.mul_one] at h1
    generalize 2 ^ (d - 1) * 2 ^ f = z at *
    omega
  · exact Nat.le_antisymm h.top hge
theorem near_inf {X : Nat} {X' : Nat} (h : Near X 1 9218868437227405312) (hx : X ≤ X') : Near X' 1 9218868437227405312 :=
  ⟨fun q hq => Nat.le_trans (h.lo q hq) hx, fun _ _ _ => rfl, fun h => absurd h (by omega), fun h => absurd h (by omega), Nat.le_refl _⟩
/-- What is less than ten to the -325 is nought. -/
theorem near_low {n r : Nat} (c t : Nat) (hc : c = 1349) (ht : t = 1024) (hn : n < 10 ^ t) (h : Near (2 * n * S1074) (10 ^ c) r) : r = 0 := by
  rcases Nat.eq_zero_or_pos r with h0 | h0
  · exact h0
  · exfalso
    have h1 := h.lo (r - 1) (by omega)
    have h2 := V_lt h0
    obtain ⟨f, hf⟩ : ∃ f : Nat, f = 1074 := ⟨_, rfl⟩
    rw [S_eq f hf] at h1
    have h4 := big325 (c - t) (f + 1) (by omega) (by omega)
    have h5 : 10 ^ c = 10 ^ t * 10 ^ (c - t) := by rw [← Nat.pow_add]; congr 1; omega
    have h6 : 1 * 10 ^ c ≤ (V (r - 1) + V r) * 10 ^ c := Nat.mul_le_mul_right _ (by omega)
    have h7 : 2 * n * 2 ^ f < 2 * 10 ^ t * 2 ^ f := Nat.mul_lt_mul_of_pos_right (by omega) (Nat.pow_pos (by omega))
    have h8 : 10 ^ t * 2 ^ (f + 1) ≤ 10 ^ t * 10 ^ (c - t) := Nat.mul_le_mul_left _ h4
    have h9 : 2 * 10 ^ t * 2 ^ f = 10 ^ t * 2 ^ (f + 1) := by rw [Nat.pow_succ, Nat.mul_comm 2, Nat.mul_assoc, Nat.mul_comm 2]
    rw [h5] at h6 h1
    generalize 10 ^ t * 10 ^ (c - t) = z at *
    generalize 10 ^ t * 2 ^ (f + 1) = y at *
    omega
/-- The powers beyond those that Read takes make no difference. -/
theorem near_unclamp {n r : Nat} {x K : Int} (t : Nat) (ht : t = 1024) (hn : n < 10 ^ t) (hx : min (max x (-1349)) 310 = K) (h : Near (2 * (n * 10 ^ K.toNat) * S1074) (10 ^ (-K).toNat) r) :
    Near (2 * (n * 10 ^ x.toNat) * S1074) (10 ^ (-x).toNat) r := by
  rcases Nat.eq_zero_or_pos n with h0 | h0
  · subst h0
    have : r = 0 := by
      rw [Nat.zero_mul, Nat.mul_zero, Nat.zero_mul] at h
      exact h.uniq (Nat.pow_pos (by omega)) (Nat.pow_pos (by omega)) rfl (near_zero (Nat.pow_pos (by omega)))
    subst this
    rw [Nat.zero_mul, Nat.mul_zero, Nat.zero_mul]
    exact near_zero (Nat.pow_pos (by omega))
  by_cases h1 : 310 < x
  · have hK : K = 310 := by omega
    rw [hK, show ((310 : Int)).toNat = 310 by decide, show (-(310 : Int)).toNat = 0 by decide, Nat.pow_zero] at h
    rw [show (-x).toNat = 0 by omega, Nat.pow_zero]
    obtain ⟨c, hc⟩ : ∃ c : Nat, c = 310 := ⟨_, rfl⟩
    rw [← hc] at h
    have hr := near_top (D := 1) h0 c hc h
    subst hr
    refine near_inf h ?_
    exact Nat.mul_le_mul_right _ (Nat.mul_le_mul_left _ (Nat.mul_le_mul_left _ (Nat.pow_le_pow_right (by omega) (by omega))))
  by_cases h2 : x < -1349
  · have hK : K = -1349 := by omega
    rw [hK, show (-(-1349 : Int)).toNat = 1349 by decide, show (-1349 : Int).toNat = 0 by decide, Nat.pow_zero, Nat.mul_one] at h
    rw [show x.toNat = 0 by omega, Nat.pow_zero, Nat.mul_one]
    obtain ⟨c, hc⟩ : ∃ c : Nat, c = 1349 := ⟨_, rfl⟩
    rw [← hc] at h
    have hr := near_low c t hc ht hn h
    subst hr
    refine ⟨fun q e => absurd e (by omega), fun q e => absurd e (by omega), fun _ => ?_, fun _ _ => rfl, by omega⟩
    exact Nat.le_trans (h.hi (by omega)) (Nat.mul_le_mul_left _ (Nat.pow_le_pow_right (by omega) (by omega)))
  · have : K = x := by omega
    subst this
    exact h
/-- Read: the nearest float to the digits times the power of ten. -/
theorem read_yes (s : ByteArray) (x : Int) (w : World) (hs : s.size ≤ 1024) (hd : isDec s = true) :
    Calls Tryz.prog 6 #[.string s, .int .i64 x] w fun e w' => (∃ r, e = .returned (.tuple #[.float .f64 r, .int .i64 0]) ∧ Near (2 * (pv s.data.toList * 10 ^ x.toNat) * S1074) (10 ^ (-x).toNat) r) ∧ Below w.heap.size w w' := by
  refine (read_mid s x _ w hs hd rfl).mono ?_
  rintro e w' ⟨⟨r, rfl, h⟩, hB⟩
  obtain ⟨t, ht⟩ : ∃ t : Nat, t = 1024 := ⟨_, rfl⟩
  refine ⟨⟨r, rfl, near_unclamp t ht ?_ rfl h⟩, hB⟩
  refine Nat.lt_of_lt_of_le (pv_lt (isDec_iff.1 hd).2) (Nat.pow_le_pow_right (by omega) ?_)
  rw [ba_len, ht]
  exact hs
end Go.Proofs.YtkjdmjglpbnmoaaGreatDoor

namespace Go.Proofs.YtkjdmjglpbnmoaaGreatDoor

theorem rnd_mono {A B A' B' : Nat} (hB : 0 < B) (hB' : 0 < B') (h : A * B' ≤ A' * B) : rnd A B ≤ rnd A' B' := by
  obtain ⟨-, h1⟩ := rnd_near A B hB
  obtain ⟨⟨h2, h2e⟩, -⟩ := rnd_near A' B' hB'
  generalize rnd A B = m at *
  generalize rnd A' B' = m' at *
  rcases Nat.lt_or_ge m' m with hlt | hge
  · exfalso
    obtain ⟨h1, h1e⟩ := h1 (by omega)
    have e1 : (2 * m - 1) * B * B' ≤ 2 * A * B' := Nat.mul_le_mul_right _ h1
    have e2 : 2 * A' * B ≤ (2 * m' + 1) * B' * B := Nat.mul_le_mul_right _ h2
    rw [Nat.mul_right_comm _ B' B] at e2
    have e3 : 2 * A * B' ≤ 2 * A' * B := by rw [Nat.mul_assoc, Nat.mul_assoc]; omega
    have e4 : (2 * m - 1) * B * B' ≤ (2 * m' + 1) * B * B' := by omega
    have e5 := Nat.le_of_mul_le_mul_right (Nat.le_of_mul_le_mul_right e4 hB') hB
    have e6 : 2 * m - 1 = 2 * m' + 1 := by omega
    rw [e6] at h1 h1e e1
    have e7 : 2 * A * B' = (2 * m' + 1) * B * B' := by omega
    have e8 : 2 * A' * B = (2 * m' + 1) * B' * B := by rw [Nat.mul_right_comm _ B' B]; omega
    have p1 := h1e (Nat.eq_of_mul_eq_mul_right hB' e7).symm
    have p2 := h2e (Nat.eq_of_mul_eq_mul_right hB e8)
    omega
  · exact hge
theorem sci_mono {N D : Nat} {k l : Int} (hD : 0 < D) (h : k ≤ l) : sciM N D k ≤ sciM N D l := by
  refine rnd_mono (Nat.mul_pos hD (Nat.pow_pos (by omega))) (Nat.mul_pos hD (Nat.pow_pos (by omega))) ?_
  have e : 10 ^ k.toNat * 10 ^ (-l).toNat ≤ 10 ^ l.toNat * 10 ^ (-k).toNat := by
    rw [← Nat.pow_add, ← Nat.pow_add]
    exact Nat.pow_le_pow_right (by omega) (by omega)
  calc N * 10 ^ k.toNat * (D * 10 ^ (-l).toNat) = N * D * (10 ^ k.toNat * 10 ^ (-l).toNat) := by ac_rfl
    _ ≤ N * D * (10 ^ l.toNat * 10 ^ (-k).toNat) := Nat.mul_le_mul_left _ e
    _ = N * 10 ^ l.toNat * (D * 10 ^ (-k).toNat) := by ac_rfl
theorem SciOk.uniq {N D p M M' : Nat} {P P' : Int} (hD : 0 < D) (h : SciOk N D p P M) (h' : SciOk N D p P' M') : P = P' ∧ M = M' := by
  have key : ∀ {P P' : Int} {M M' : Nat}, SciOk N D p P M → SciOk N D p P' M' → ¬ P < P' := fun {P P' M M'} h h' hlt => by
    have h1 := sci_mono (N := N) hD (show (p : Int) - P' + 1 ≤ (p : Int) - P by omega)
    have h2 := h'.more
    have h3 := h.high
    rw [h.val] at h3
    omega
  have e : P = P' := by
    have := key h h'
    have := key h' h
    omega
  subst e
  exact ⟨rfl, by rw [h.val, h'.val]⟩
/-- The order of floats that are not below nought, infinity among them. -/
theorem order_le {r s : Nat} (hr : r ≤ 9218868437227405312) (hs : s ≤ 9218868437227405312) : Ieee.double.order r s = some (compare (r : Int) (s : Int)) := by
  have hm : ∀ x, x ≤ 9218868437227405312 → mag x = x := fun x h => Nat.mod_eq_of_lt (by omega)
  have hg : ∀ x, x ≤ 9218868437227405312 → (x / 9223372036854775808 % 2 == 1) = false := fun x h => by rw [beq_eq_false_iff_ne]; omega
  by_cases h1 : r < 9218868437227405312
  · by_cases h2 : s < 9218868437227405312
    · exact order_V h1 h2
    · unfold Ieee.Format.order
      rw [read_fin (by rw [hm r hr]; exact h1), read_inf (b := s) (by rw [hm s hs]; omega), hg s hs, Int.compare_eq_lt.2 (by omega)]
      rfl
  · by_cases h2 : s < 9218868437227405312
    · unfold Ieee.Format.order
      rw [read_inf (b := r) (by rw [hm r hr]; omega), hg r hr, read_fin (by rw [hm s hs]; exact h2), Int.compare_eq_gt.2 (by omega)]
      rfl
    · unfold Ieee.Format.order
      rw [read_inf (b := r) (by rw [hm r hr]; omega), hg r hr, read_inf (b := s) (by rw [hm s hs]; omega), hg s hs, Int.compare_eq_eq.2 (by omega)]
      rfl
end Go.Proofs.YtkjdmjglpbnmoaaGreatDoor

namespace Go.Proofs.YtkjdmjglpbnmoaaGreatDoor
open Go.RowKit Go.Lib

theorem same_any (x y : Nat) (w : World) : Calls Tryz.prog 8 #[.float .f64 x, .float .f64 y] w fun e w' => e = .returned (.bool ((x : Int) == (y : Int))) ∧ w = w' := by
  have h1 := fun W => run_f64bits x W
  have h2 := fun W => run_f64bits y W
  go_enter Tryz.func8, Tryz.ntmps8
  go_wp2
  go_ret
  exact ⟨rfl, rfl⟩
theorem byte_str (W : World) (x : Int) (h0 : 0 ≤ x) (h1 : x ≤ 255) :
    (convert 94 9 (.slice (some ⟨W.heap.size, 0, none⟩) 1 1)).run Tryz.prog (W.alloc (.cells #[.int .u8 x] 5)) = .ok (.string ⟨#[UInt8.ofNat x.toNat]⟩) (W.alloc (.cells #[.int .u8 x] 5)) := by
  have := run_convert_bytes_back (P := Tryz.prog) (W.alloc (.cells #[.int .u8 x] 5)) 94 9 5 ⟨W.heap.size, 0, none⟩ 1 [UInt8.ofNat x.toNat]
    Tryz.underlying94 Tryz.underlying5 Tryz.underlying9 (fun j hj => by
      obtain rfl : j = 0 := by simpa using hj
      rw [Addr.add_lit, World.cell?_alloc_at _ _ _ _ rfl]
      simp
      omega)
  simpa using this
theorem decs_step {m : Nat} (h : 10 ≤ m) : decs m = decs (m / 10) ++ [db (m % 10)] := by
  have h0 : m / 10 ≠ 0 := by omega
  have e : dig 10 m = m % 10 :: dig 10 (m / 10) := by
    refine dig_eq (by decide) ⟨lim_cons.2 ⟨Nat.mod_lt _ (by omega), (dig_norm (by decide) _).1⟩, ?_⟩ ?_
    · have := (dig_norm (B := 10) (by decide) (m / 10)).2
      have hn : dig 10 (m / 10) ≠ [] := fun e => h0 (dig_nil (by decide) e)
      unfold Top at *
      rw [List.getLast?_cons]
      rw [List.getLast?_eq_some_getLast hn] at this ⊢
      exact this
    · rw [vl_cons, dig_vl (by decide)]
      omega
  rw [decs, if_neg (by omega), e, decs, if_neg h0]
  simp
theorem decs_one {m : Nat} (h : m < 10) : decs m = [db (m % 10)] := by
  have : ∀ m : Nat, m < 10 → decs m = [db (m % 10)] := by decide
  exact this m h
/-- What stands ahead of the digits that are written already. -/
def ahead (m : Nat) : List UInt8 := if m < 10 then [] else decs (m / 10)
theorem ahead_step (m : Nat) : ahead m ++ [db (m % 10)] = decs m := by
  unfold ahead
  split
  · rw [decs_one (by assumption)]; rfl
  · rw [decs_step (m := m) (by omega)]
theorem byte_db {m : Nat} : UInt8.ofNat (48 + (m : Int) % 10).toNat = db (m % 10) := by
  rw [show (48 + (m : Int) % 10).toNat = 48 + m % 10 by omega]
  rfl
end Go.Proofs.YtkjdmjglpbnmoaaGreatDoor

namespace Go.Proofs.YtkjdmjglpbnmoaaGreatDoor
open Go.RowKit Go.Lib

theorem near_strict {X D r : Nat} (h1 : ∀ q, r = q + 1 → (V q + V r) * D < X) (h2 : X < (V r + V (r + 1)) * D) (ht : r ≤ 9218868437227405312) : Near X D r :=
  ⟨fun q hq => Nat.le_of_lt (h1 q hq), fun q hq e => absurd e (Nat.ne_of_lt (h1 q hq)), fun _ => Nat.le_of_lt h2, fun _ e => absurd e (Nat.ne_of_lt h2), ht⟩
def exB (X D a b c : Nat) : Bool := decide ((a + b) * D < X) && decide (X < (b + c) * D)
theorem near_exB {X D q : Nat} (h : exB X D (V q) (V (q + 1)) (V (q + 1 + 1)) = true) (ht : q + 1 ≤ 9218868437227405312) : Near X D (q + 1) := by
  unfold exB at h
  rw [Bool.and_eq_true, decide_eq_true_eq, decide_eq_true_eq] at h
  refine near_strict (fun r hr => ?_) h.2 ht
  obtain rfl : r = q := Nat.succ.inj hr.symm
  exact h.1
theorem near_ex : Near (2 * 31416 * S1074) 10000 4614256673094690983 := near_exB (q := 4614256673094690982) (by decide +kernel) (by decide)
theorem ex2_t : (fixT (decs (rnd (amN (mag 4612811918334230528) * 10 ^ 0) (amD (mag 4612811918334230528)))) 0 == [50]) = true := by decide +kernel
def sciB (N D p : Nat) (P : Int) (M : Nat) : Bool := M == sciM N D ((p : Int) - P) && Nat.ble (10 ^ p) M && Nat.blt M (10 ^ (p + 1)) && Nat.ble (10 ^ (p + 1)) (sciM N D ((p : Int) - P + 1))
theorem sciB_ok {N D p : Nat} {P : Int} {M : Nat} (h : sciB N D p P M = true) (hb : -400 ≤ P ∧ P ≤ 400) : SciOk N D p P M := by
  unfold sciB at h
  simp only [Bool.and_eq_true, beq_iff_eq] at h
  obtain ⟨⟨⟨h1, h2⟩, h3⟩, h4⟩ := h
  exact ⟨h1, Nat.le_of_ble_eq_true h2, Nat.le_of_ble_eq_true h3, Nat.le_of_ble_eq_true h4, hb⟩
theorem ex3_t : sciB (amN (mag 4653144203864309760)) (amD (mag 4653144203864309760)) 3 3 1234 = true := by decide +kernel
theorem ex3_d : (decs 1234 == [49, 50, 51, 52]) = true := by decide +kernel
set_option maxRecDepth 100000 in
set_option maxHeartbeats 1000000 in
theorem lfixed_any (w : World) : Calls Tryz.prog 5 #[] w fun e w' => e = .returned (.bool true) ∧ Below w.heap.size w w' := by
  have c1 : Calls Tryz.prog 6 #[.string ⟨#[51, 49, 52, 49, 54]⟩, .int .i64 (-4)] w fun e w' => e = .returned (.tuple #[.float .f64 4614256673094690983, .int .i64 0]) ∧ Below w.heap.size w w' := by
    refine (read_yes ⟨#[51, 49, 52, 49, 54]⟩ (-4) w (by decide) (isDec_iff.2 ⟨by decide, by unfold Dec; decide⟩)).mono ?_
    rintro e w' ⟨⟨r, rfl, h⟩, hB⟩
    have hp : pv (⟨#[51, 49, 52, 49, 54]⟩ : ByteArray).data.toList = 31416 := by decide
    rw [hp, show (-4 : Int).toNat = 0 by decide, show (-(-4 : Int)).toNat = 4 by decide, Nat.pow_zero, Nat.mul_one] at h
    have := h.uniq (by decide) (by decide) rfl near_ex
    subst this
    exact ⟨rfl, hB⟩
  have c2 : ∀ W : World, Calls Tryz.prog 10 #[.float .f64 4612811918334230528, .int .i64 0] W fun e w' => e = .returned (.tuple #[.string ⟨#[50]⟩, .int .i64 0]) ∧ Below W.heap.size W w' := fun W => by
    have h := fixed_yes 4612811918334230528 0 W (by omega) (by decide) (by omega)
    rw [eq_of_beq ex2_t] at h
    exact h
  have c3 : ∀ W : World, Calls Tryz.prog 12 #[.float .f64 4653144203864309760, .int .i64 3] W fun e w' => e = .returned (.tuple #[.string ⟨#[49, 50, 51, 52]⟩, .int .i64 3, .int .i64 0]) ∧ Below W.heap.size W w' := fun W => by
    refine (sci_yes 4653144203864309760 3 W (by omega) (by decide) (by decide) (by omega)).mono ?_
    rintro e w' ⟨⟨P, M, h, rfl⟩, hB⟩
    obtain ⟨rfl, rfl⟩ := h.uniq (amD_pos _) (sciB_ok ex3_t (by omega))
    rw [eq_of_beq ex3_d]
    exact ⟨rfl, hB⟩
  have CR := Lib.hid c1
  have CF := Lib.hid c2
  have CS := Lib.hid c3
  have ho : (FloatKind.f64.format.order 4614256673094690983 4614256673094690983 == some .eq) = true := by decide
  clear c1 c2 c3
  go_enter Tryz.func5, Tryz.ntmps5
  go_wp2_with fail
  refine CR.out.mono ?_
  rintro e w1 ⟨rfl, hB⟩
  go_wp2_with fail
  refine (CF.out _).mono ?_
  rintro e w2 ⟨rfl, hn⟩
  have hB := hB.trans (hn.mono hB.size)
  clear hn
  go_wp2_with fail
  refine (CS.out _).mono ?_
  rintro e w3 ⟨rfl, hn⟩
  have hB := hB.trans (hn.mono hB.size)
  clear hn
  go_wp2
  go_ret
  exact ⟨rfl, hB⟩
end Go.Proofs.YtkjdmjglpbnmoaaGreatDoor

namespace Go.Proofs.YtkjdmjglpbnmoaaGreatDoor
open Go.RowKit Go.Lib

theorem V_am {r : Nat} : V r * amD r = amN r * S1074 := by
  obtain ⟨c, hc⟩ : ∃ c : Nat, c = 1074 := ⟨_, rfl⟩
  rw [← val_V, Nat.shiftLeft_eq, amN, amD, S_eq c hc, Nat.mul_assoc, Nat.mul_assoc, ← Nat.pow_add, ← Nat.pow_add]
  have := expF_lo r
  rw [show (expF r - -1074).toNat + (-expF r).toNat = (expF r).toNat + c by omega]
theorem S_pos : 0 < S1074 := by
  obtain ⟨c, hc⟩ : ∃ c : Nat, c = 1074 := ⟨_, rfl⟩
  rw [S_eq c hc]
  exact Nat.pow_pos (by omega)
theorem am_fw {m : Nat} (h : m < 9007199254740992) : amN (fw m) = m * amD (fw m) := by
  have h1 := V_am (r := fw m)
  rw [fw_V h] at h1
  refine Nat.eq_of_mul_eq_mul_right S_pos ?_
  rw [← h1]
  generalize S1074 = z
  ac_rfl
theorem rnd_exact (q D : Nat) (hD : 0 < D) : rnd (q * D) D = q := by
  rw [rnd, Nat.mul_div_cancel _ hD, Nat.mul_mod_left, if_neg (by omega)]
theorem decs_zeros {n : Nat} (h : 0 < n) (p : Nat) : decs (n * 10 ^ p) = decs n ++ List.replicate p 48 := by
  induction p with
  | zero => simp
  | succ p ih =>
    have h1 : 0 < n * 10 ^ p := Nat.mul_pos h (Nat.pow_pos (by omega))
    rw [Nat.pow_succ, ← Nat.mul_assoc, decs_step (by omega), Nat.mul_div_cancel _ (by omega), Nat.mul_mod_left, ih, List.replicate_succ', List.append_assoc]
    rfl
theorem fix_whole (n p : Nat) (hp : 0 < p) : fixT (decs (n * 10 ^ p)) p = decs n ++ 46 :: List.replicate p 48 := by
  rw [fixT, if_neg (by omega)]
  have key : padT (decs (n * 10 ^ p)) p = decs n ++ List.replicate p 48 := by
    rcases Nat.eq_zero_or_pos n with rfl | h
    · rw [Nat.zero_mul, padT, decs_zero]
      show List.replicate (p + 1 - 1) 48 ++ [48] = [48] ++ List.replicate p 48
      rw [Nat.add_sub_cancel, ← List.replicate_succ']
      rfl
    · have hl : 1 ≤ (decs n).length := by
        rcases Nat.eq_zero_or_pos (decs n).length with h0 | h0
        · have := (decs_le (n := n) (k := 1) (by omega)).1 (by omega)
          rw [decs_one (by omega)] at h0
          exact absurd h0 (by simp)
        · exact h0
      rw [decs_zeros h, padT, List.length_append, List.length_replicate, show p + 1 - ((decs n).length + p) = 0 by omega]
      rfl
  rw [key, List.length_append, List.length_replicate, Nat.add_sub_cancel, List.take_left', List.drop_left'] <;> rfl
theorem fixed_nat (m p : Nat) (w : World) (hm : m < 9007199254740992) (hp : p ≤ 200) :
    Calls Tryz.prog 10 #[.float .f64 (fw m), .int .i64 p] w fun e w' => e = .returned (.tuple #[.string ⟨(if p = 0 then decs m else decs m ++ 46 :: List.replicate p 48).toArray⟩, .int .i64 0]) ∧ Below w.heap.size w w' := by
  have hb := fw_bd hm
  have hg := fw_mag hm
  have h := fixed_yes (fw m) p w (by omega) (by rw [hg]; omega) hp
  rw [hg, am_fw hm, Nat.mul_right_comm, rnd_exact _ _ (amD_pos _)] at h
  by_cases h0 : p = 0
  · subst h0
    rw [if_pos rfl]
    rw [Nat.pow_zero, Nat.mul_one, fixT, if_pos rfl] at h
    exact h
  · rw [if_neg h0, ← fix_whole m p (by omega)]
    exact h
theorem pv_noughts (k : Nat) (l : List UInt8) : pv (List.replicate k 48 ++ l) = pv l := by
  rw [pv_append, pv_zeros, Nat.zero_mul, Nat.zero_add]
theorem pv_decs (n : Nat) : pv (decs n) = n := by
  induction n using Nat.strongRecOn with
  | _ n ih =>
    rw [← ahead_step, pv_snoc]
    unfold ahead
    split
    · rw [db_toNat (by omega)]
      simp [pv]
      omega
    · rw [ih _ (by omega), db_toNat (Nat.mod_lt _ (by omega))]
      omega
theorem dec_decs (n : Nat) : Dec (decs n) := by
  induction n using Nat.strongRecOn with
  | _ n ih =>
    rw [← ahead_step]
    intro c hc
    rcases List.mem_append.1 hc with h | h
    · unfold ahead at h
      split at h
      · exact absurd h (by simp)
      · exact ih _ (by omega) c h
    · rw [List.mem_singleton.1 h, db_toNat (Nat.mod_lt _ (by omega))]
      omega
theorem dec_noughts (k : Nat) : Dec (List.replicate k (48 : UInt8)) := fun c hc => by
  rw [(List.mem_replicate.1 hc).2]
  decide
/-- The number that is read, where the exact value is a natural below 2^53. -/
theorem near_fw {m a r : Nat} {D : Nat} (hm : m < 9007199254740992) (hD : 0 < D) (ha : a = m * D) (h : Near (2 * a * S1074) D r) : r = fw m := by
  have hs := Near.self (r := fw m) (by have := fw_bd hm; omega)
  rw [fw_V hm] at hs
  refine h.uniq hD (by omega) ?_ hs
  rw [ha]
  generalize S1074 = z
  ac_rfl
/-- Digits and a nought behind them, with the power one less. -/
theorem near_shift {n r r' : Nat} {x : Int} (h : Near (2 * (n * 10 ^ x.toNat) * S1074) (10 ^ (-x).toNat) r) (h' : Near (2 * (n * 10 * 10 ^ (x - 1).toNat) * S1074) (10 ^ (-(x - 1)).toNat) r') : r = r' := by
  refine h.uniq (Nat.pow_pos (by omega)) (Nat.pow_pos (by omega)) ?_ h'
  have e : 10 ^ x.toNat * 10 ^ (-(x - 1)).toNat = 10 * 10 ^ (x - 1).toNat * 10 ^ (-x).toNat := by
    rw [← Nat.pow_succ', ← Nat.pow_add, ← Nat.pow_add]
    congr 1
    omega
  generalize S1074 = z
  calc 2 * (n * 10 ^ x.toNat) * z * 10 ^ (-(x - 1)).toNat = 2 * n * z * (10 ^ x.toNat * 10 ^ (-(x - 1)).toNat) := by ac_rfl
    _ = 2 * n * z * (10 * 10 ^ (x - 1).toNat * 10 ^ (-x).toNat) := by rw [e]
    _ = 2 * (n * 10 * 10 ^ (x - 1).toNat) * z * 10 ^ (-x).toNat := by ac_rfl
theorem near_mono {n m r s : Nat} {x : Int} (hnm : n ≤ m) (h : Near (2 * (n * 10 ^ x.toNat) * S1074) (10 ^ (-x).toNat) r) (h' : Near (2 * (m * 10 ^ x.toNat) * S1074) (10 ^ (-x).toNat) s) : r ≤ s :=
  h.le (Nat.pow_pos (by omega)) (Nat.pow_pos (by omega)) (Nat.mul_le_mul_right _ (Nat.mul_le_mul_right _ (Nat.mul_le_mul_left _ (Nat.mul_le_mul_right _ hnm)))) h'
/-- What Read answers, with a name for the float. -/
def ReadEnd (w : World) (X D : Nat) (e : Ending) (w' : World) : Prop := ∃ r, e = .returned (.tuple #[.float .f64 r, .int .i64 0]) ∧ Hid (Near X D r) ∧ Below w.heap.size w w'
theorem read_end (s : ByteArray) (n : Nat) (x : Int) (w : World) (hs : s.size ≤ 1024) (hd : isDec s = true) (hn : pv s.data.toList = n) :
    Calls Tryz.prog 6 #[.string s, .int .i64 x] w (ReadEnd w (2 * (n * 10 ^ x.toNat) * S1074) (10 ^ (-x).toNat)) := by
  refine (read_yes s x w hs hd).mono ?_
  rintro e w' ⟨⟨r, rfl, h⟩, hB⟩
  rw [hn] at h
  exact ⟨r, rfl, Lib.hid h, hB⟩
theorem decs_len_of {M p : Nat} (h1 : 10 ^ p ≤ M) (h2 : M < 10 ^ (p + 1)) : (decs M).length = p + 1 := by
  have a := (decs_le (n := M) (k := p + 1) (by omega)).2 h2
  rcases Nat.eq_zero_or_pos p with rfl | hp
  · have : 1 ≤ (decs M).length := by rw [← ahead_step, List.length_append]; simp
    omega
  · rcases Nat.lt_or_ge p (decs M).length with h3 | h3
    · omega
    · exact absurd ((decs_le hp).1 h3) (by omega)
end Go.Proofs.YtkjdmjglpbnmoaaGreatDoor

namespace Go.Proofs.YtkjdmjglpbnmoaaGreatDoor
open Go.RowKit Go.Lib

set_option maxRecDepth 100000 in
set_option maxHeartbeats 1000000 in
theorem rparts_no (b : Nat) (w : World) (hb : b < 18446744073709551616) (h : 9218868437227405312 ≤ mag b) (h2 : mag b / 4503599627370496 = 2047) : Calls Tryz.prog 15 #[.float .f64 b] w fun e w' => e = .returned (.tuple #[.int .u64 0, .int .i64 0, .bool false]) ∧ w = w' := by
  have hr := run_f64bits b w
  have hm : (b : Int) % 9223372036854775808 = ((mag b : Nat) : Int) := by unfold mag; omega
  obtain ⟨m, hme⟩ : ∃ m, mag b = m := ⟨_, rfl⟩
  rw [hme] at h h2 hm
  have hy : ((m : Int) / 4503599627370496) = 2047 := by omega
  clear h h2 hme
  go_enter Tryz.func15, Tryz.ntmps15
  go_wp2
  go_ret3
  exact ⟨rfl, rfl⟩
set_option maxRecDepth 100000 in
set_option maxHeartbeats 1000000 in
theorem rparts_yes (b : Nat) (w : World) (hb : b < 18446744073709551616) (h : mag b < 9218868437227405312) : Calls Tryz.prog 15 #[.float .f64 b] w fun e w' => e = .returned (.tuple #[.int .u64 (manF (mag b)), .int .i64 (expF (mag b)), .bool true]) ∧ w = w' := by
  have hr := run_f64bits b w
  have hm : (b : Int) % 9223372036854775808 = ((mag b : Nat) : Int) := by unfold mag; omega
  obtain ⟨m, hme⟩ : ∃ m, mag b = m := ⟨_, rfl⟩
  rw [hme] at h hm
  rw [hme]
  clear hme
  obtain ⟨y, hy⟩ : ∃ y, m / 4503599627370496 = y := ⟨_, rfl⟩
  have hy2 : y ≤ 2046 := by omega
  have hyd : (m : Int) / 4503599627370496 = (y : Int) := by omega
  have hyn : ((y : Int) == 2047) = false := by rw [beq_eq_false_iff_ne]; omega
  by_cases hs : m < 4503599627370496
  · have HM := Lib.hid (show ((manF m : Nat) : Int) = (m : Int) % 4503599627370496 by rw [manF, if_pos hs]; omega)
    have HE := Lib.hid (show expF m = -1074 by rw [expF, if_pos hs])
    have hy0 : ((y : Int) == 0) = true := by rw [beq_iff_eq]; omega
    clear hy hs
    go_enter Tryz.func15, Tryz.ntmps15
    go_wp2
    go_ret3
    exact ⟨by rw [HM.out, HE.out]; rfl, rfl⟩
  · have HM := Lib.hid (show ((manF m : Nat) : Int) = (m : Int) % 4503599627370496 + 4503599627370496 by rw [manF, if_neg hs]; omega)
    have HE := Lib.hid (show expF m = (y : Int) - 1075 by rw [expF, if_neg hs, hy]; omega)
    have hy0 : ((y : Int) == 0) = false := by rw [beq_eq_false_iff_ne]; omega
    clear hy hs
    go_enter Tryz.func15, Tryz.ntmps15
    go_wp2
    go_ret3
    exact ⟨by rw [HM.out, HE.out]; rfl, rfl⟩
theorem dlen_mul {a b k j : Nat} (ha : (dig D4 a).length ≤ k) (hb : (dig D4 b).length ≤ j) : (dig D4 (a * b)).length ≤ k + j := by
  rw [dig_len_le (by decide)] at ha hb ⊢
  rw [Nat.pow_add]
  exact Nat.mul_lt_mul'' ha hb
/-- The two sides that 'above' compares. -/
def abL (n : Nat) (x : Int) (r : Nat) : Nat := n * (10 ^ x.toNat * 2 ^ (-(expF r - 1)).toNat)
def abR (x : Int) (r : Nat) : Nat := (manF r * 2 + 1) * (10 ^ (-x).toNat * 2 ^ (expF r - 1).toNat)
set_option maxRecDepth 100000 in
set_option maxHeartbeats 4000000 in
theorem above_any (A : Option Addr) (ca n : Nat) (x : Int) (r : Nat) (w : World) (hx0 : -5000 ≤ x) (hx1 : x ≤ 5000) (hr : r < 9218868437227405312) (hnl : (dig D4 n).length ≤ 5000) (hra : Rd .i64 w A (dig D4 n)) :
    Calls Tryz.prog 25 #[.slice A (dig D4 n).length ca, .int .i64 x, .int .u64 r] w fun e w' => e = .returned (.int .i64 (cmpZ (abL n x r) (abR x r))) ∧ Below w.heap.size w w' := by
  have hmr : mag r = r := Nat.mod_eq_of_lt (by omega)
  have hf := fun W => run_f64from r W
  have c1 := fun W => rparts_yes r W (by omega) (by rw [hmr]; exact hr)
  rw [hmr] at c1
  have he := expF_bd hr
  have hml := manF_lt (r := r)
  unfold abL abR
  obtain ⟨m, hm⟩ : ∃ m, manF r = m := ⟨_, rfl⟩
  obtain ⟨E, hE⟩ : ∃ E, expF r = E := ⟨_, rfl⟩
  rw [hm, hE] at c1
  rw [hE] at he
  rw [hm] at hml
  rw [hm, hE]
  have k1 : max x 0 = ((x.toNat : Nat) : Int) := by omega
  have k2 : max (-(E - 1)) 0 = (((-(E - 1)).toNat : Nat) : Int) := by omega
  have k3 : max (-x) 0 = (((-x).toNat : Nat) : Int) := by omega
  have k4 : max (E - 1) 0 = (((E - 1).toNat : Nat) : Int) := by omega
  have b1 : x.toNat ≤ 5000 := by omega
  have b2 : (-(E - 1)).toNat ≤ 5000 := by omega
  have b3 : (-x).toNat ≤ 5000 := by omega
  have b4 : (E - 1).toNat ≤ 5000 := by omega
  generalize x.toNat = p10 at *
  generalize (-(E - 1)).toNat = q2 at *
  generalize (-x).toNat = q10 at *
  generalize (E - 1).toNat = p2 at *
  have cS := fun (W : World) => small_any m W (by omega)
  have cS2 := fun (W : World) => small_any 2 W (by omega)
  have cS1 := fun (W : World) => small_any 1 W (by omega)
  have l1 := dig4_powb (b := 10) (j := p10) (by omega) (by omega)
  have l2 := dig4_powb (b := 2) (j := q2) (by omega) (by omega)
  have l3 := dig4_powb (b := 10) (j := q10) (by omega) (by omega)
  have l4 := dig4_powb (b := 2) (j := p2) (by omega) (by omega)
  have ln : ∀ z, z < 10000000000000000000000000000000000000000 → (dig D4 z).length ≤ 16 := fun z hz => (dig_len_le (by decide) z 16).2 (Nat.lt_trans hz (by decide))
  have cM := fun (A1 A2 : Option Addr) (c1 c2 a b : Nat) (W : World) (h1 : (dig D4 a).length ≤ 30000) (h2 : (dig D4 b).length ≤ 30000) (hr1 : Rd .i64 W A1 (dig D4 a)) (hr2 : Rd .i64 W A2 (dig D4 b)) => rmul_any A1 A2 c1 c2 (dig D4 a) (dig D4 b) W (lim4p _) (lim4p _) (by omega) (by omega) hr1 hr2
  simp only [dig_vl (show 2 ≤ D4 by decide)] at cM
  have cA := fun (A1 A2 : Option Addr) (c1 c2 a b : Nat) (W : World) (h1 : (dig D4 a).length ≤ 30000) (h2 : (dig D4 b).length ≤ 30000) (hr1 : Rd .i64 W A1 (dig D4 a)) (hr2 : Rd .i64 W A2 (dig D4 b)) => radd_any A1 A2 c1 c2 (dig D4 a) (dig D4 b) W (lim4p _) (lim4p _) (by omega) (by omega) hr1 hr2
  simp only [dig_vl (show 2 ≤ D4 by decide)] at cA
  have cC := fun (A1 A2 : Option Addr) (c1 c2 a b : Nat) (W : World) (h1 : (dig D4 a).length ≤ 30000) (h2 : (dig D4 b).length ≤ 30000) (hr1 : Rd .i64 W A1 (dig D4 a)) (hr2 : Rd .i64 W A2 (dig D4 b)) => rcmp_any A1 A2 c1 c2 (dig D4 a) (dig D4 b) W (dig_norm (by decide) _) (dig_norm (by decide) _) (by omega) (by omega) hr1 hr2
  simp only [dig_vl (show 2 ≤ D4 by decide)] at cC
  have CP := Lib.hid c1
  have CS := Lib.hid cS
  have CS2 := Lib.hid cS2
  have CS1 := Lib.hid cS1
  have CM := Lib.hid cM
  have CA := Lib.hid cA
  have CC := Lib.hid cC
  have CPa := Lib.hid (fun W => rpow_b10 p10 W (by omega))
  have CPb := Lib.hid (fun W => rpow_b2 q2 W (by omega))
  have CPc := Lib.hid (fun W => rpow_b10 q10 W (by omega))
  have CPd := Lib.hid (fun W => rpow_b2 p2 W (by omega))
  have m1 : (dig D4 m).length ≤ 16 := ln _ (by omega)
  have m2 : (dig D4 (m * 2)).length ≤ 16 := ln _ (by omega)
  have m3 : (dig D4 (m * 2 + 1)).length ≤ 16 := ln _ (by omega)
  have m4 : (dig D4 2).length ≤ 16 := ln _ (by omega)
  have m5 : (dig D4 1).length ≤ 16 := ln _ (by omega)
  have m6 := dlen_mul l1 l2
  have m7 := dlen_mul l3 l4
  have m8 := dlen_mul hnl m6
  have m9 := dlen_mul m3 m7
  have HA := Lib.hid hra
  have hB := Below.refl w.heap.size w
  clear c1 cS cS2 cS1 cM cA cC hm hE hmr ln hra
  go_enter Tryz.func25, Tryz.ntmps25
  go_wp2_with fail
  refine (CP.out _).mono ?_
  rintro e w' ⟨rfl, rfl⟩
  go_wp2_with fail
  refine (CS.out _).mono ?_
  rintro e w1 ⟨v, rfl, o, nb⟩
  obtain ⟨A1, d1, rfl, _⟩ := o.slice_
  have HA := Lib.hid (HA.out.below nb)
  have Q1 : Hid (Rd .i64 w1 A1 (dig D4 m)) := o.rd
  have hB := hB.trans (nb.mono hB.size)
  clear o nb
  go_wp2_with fail
  refine (CS2.out _).mono ?_
  rintro e w2 ⟨v, rfl, o, nb⟩
  obtain ⟨A2, d2, rfl, _⟩ := o.slice_
  have HA := Lib.hid (HA.out.below nb)
  have Q1 := Lib.hid (Q1.out.below nb)
  have Q2 : Hid (Rd .i64 w2 A2 (dig D4 2)) := o.rd
  have hB := hB.trans (nb.mono hB.size)
  clear o nb
  go_wp2_with fail
  refine (CM.out A1 A2 d1 d2 m 2 _ (by omega) (by omega) Q1.out Q2.out).mono ?_
  rintro e w3 ⟨v, rfl, o, nb⟩
  obtain ⟨A3, d3, rfl, _⟩ := o.slice_
  have HA := Lib.hid (HA.out.below nb)
  have Q1 := Lib.hid (Q1.out.below nb)
  have Q2 := Lib.hid (Q2.out.below nb)
  have Q3 : Hid (Rd .i64 w3 A3 (dig D4 (m * 2))) := o.rd
  have hB := hB.trans (nb.mono hB.size)
  clear o nb
  clear Q1 Q2
  go_wp2_with fail
  refine (CS1.out _).mono ?_
  rintro e w4 ⟨v, rfl, o, nb⟩
  obtain ⟨A4, d4, rfl, _⟩ := o.slice_
  have HA := Lib.hid (HA.out.below nb)
  have Q3 := Lib.hid (Q3.out.below nb)
  have Q4 : Hid (Rd .i64 w4 A4 (dig D4 1)) := o.rd
  have hB := hB.trans (nb.mono hB.size)
  clear o nb
  go_wp2_with fail
  refine (CA.out A3 A4 d3 d4 (m * 2) 1 _ (by omega) (by omega) Q3.out Q4.out).mono ?_
  rintro e w5 ⟨v, rfl, o, nb⟩
  obtain ⟨A5, d5, rfl, _⟩ := o.slice_
  have HA := Lib.hid (HA.out.below nb)
  have Q3 := Lib.hid (Q3.out.below nb)
  have Q4 := Lib.hid (Q4.out.below nb)
  have Q5 : Hid (Rd .i64 w5 A5 (dig D4 (m * 2 + 1))) := o.rd
  have hB := hB.trans (nb.mono hB.size)
  clear o nb
  clear Q3 Q4
  go_wp2_with fail
  refine (CPa.out _).mono ?_
  rintro e w6 ⟨v, rfl, o, nb⟩
  obtain ⟨A6, d6, rfl, _⟩ := o.slice_
  have HA := Lib.hid (HA.out.below nb)
  have Q5 := Lib.hid (Q5.out.below nb)
  have Q6 : Hid (Rd .i64 w6 A6 (dig D4 (10 ^ p10))) := o.rd
  have hB := hB.trans (nb.mono hB.size)
  clear o nb
  go_wp2_with fail
  refine (CPb.out _).mono ?_
  rintro e w7 ⟨v, rfl, o, nb⟩
  obtain ⟨A7, d7, rfl, _⟩ := o.slice_
  have HA := Lib.hid (HA.out.below nb)
  have Q5 := Lib.hid (Q5.out.below nb)
  have Q6 := Lib.hid (Q6.out.below nb)
  have Q7 : Hid (Rd .i64 w7 A7 (dig D4 (2 ^ q2))) := o.rd
  have hB := hB.trans (nb.mono hB.size)
  clear o nb
  go_wp2_with fail
  refine (CM.out A6 A7 d6 d7 _ _ _ (by omega) (by omega) Q6.out Q7.out).mono ?_
  rintro e w8 ⟨v, rfl, o, nb⟩
  obtain ⟨A8, d8, rfl, _⟩ := o.slice_
  have HA := Lib.hid (HA.out.below nb)
  have Q5 := Lib.hid (Q5.out.below nb)
  have Q6 := Lib.hid (Q6.out.below nb)
  have Q7 := Lib.hid (Q7.out.below nb)
  have Q8 : Hid (Rd .i64 w8 A8 (dig D4 (10 ^ p10 * 2 ^ q2))) := o.rd
  have hB := hB.trans (nb.mono hB.size)
  clear o nb
  clear Q6 Q7
  go_wp2_with fail
  refine (CM.out A A8 ca d8 _ _ _ (by omega) (by omega) HA.out Q8.out).mono ?_
  rintro e w9 ⟨v, rfl, o, nb⟩
  obtain ⟨A9, d9, rfl, _⟩ := o.slice_
  have HA := Lib.hid (HA.out.below nb)
  have Q5 := Lib.hid (Q5.out.below nb)
  have Q8 := Lib.hid (Q8.out.below nb)
  have Q9 : Hid (Rd .i64 w9 A9 (dig D4 (n * (10 ^ p10 * 2 ^ q2)))) := o.rd
  have hB := hB.trans (nb.mono hB.size)
  clear o nb
  clear Q8
  go_wp2_with fail
  refine (CPc.out _).mono ?_
  rintro e w10 ⟨v, rfl, o, nb⟩
  obtain ⟨A10, d10, rfl, _⟩ := o.slice_
  have HA := Lib.hid (HA.out.below nb)
  have Q5 := Lib.hid (Q5.out.below nb)
  have Q9 := Lib.hid (Q9.out.below nb)
  have Q10 : Hid (Rd .i64 w10 A10 (dig D4 (10 ^ q10))) := o.rd
  have hB := hB.trans (nb.mono hB.size)
  clear o nb
  go_wp2_with fail
  refine (CPd.out _).mono ?_
  rintro e w11 ⟨v, rfl, o, nb⟩
  obtain ⟨A11, d11, rfl, _⟩ := o.slice_
  have HA := Lib.hid (HA.out.below nb)
  have Q5 := Lib.hid (Q5.out.below nb)
  have Q9 := Lib.hid (Q9.out.below nb)
  have Q10 := Lib.hid (Q10.out.below nb)
  have Q11 : Hid (Rd .i64 w11 A11 (dig D4 (2 ^ p2))) := o.rd
  have hB := hB.trans (nb.mono hB.size)
  clear o nb
  go_wp2_with fail
  refine (CM.out A10 A11 d10 d11 _ _ _ (by omega) (by omega) Q10.out Q11.out).mono ?_
  rintro e w12 ⟨v, rfl, o, nb⟩
  obtain ⟨A12, d12, rfl, _⟩ := o.slice_
  have HA := Lib.hid (HA.out.below nb)
  have Q5 := Lib.hid (Q5.out.below nb)
  have Q9 := Lib.hid (Q9.out.below nb)
  have Q10 := Lib.hid (Q10.out.below nb)
  have Q11 := Lib.hid (Q11.out.below nb)
  have Q12 : Hid (Rd .i64 w12 A12 (dig D4 (10 ^ q10 * 2 ^ p2))) := o.rd
  have hB := hB.trans (nb.mono hB.size)
  clear o nb
  clear Q10 Q11
  go_wp2_with fail
  refine (CM.out A5 A12 d5 d12 _ _ _ (by omega) (by omega) Q5.out Q12.out).mono ?_
  rintro e w13 ⟨v, rfl, o, nb⟩
  obtain ⟨A13, d13, rfl, _⟩ := o.slice_
  have HA := Lib.hid (HA.out.below nb)
  have Q5 := Lib.hid (Q5.out.below nb)
  have Q9 := Lib.hid (Q9.out.below nb)
  have Q12 := Lib.hid (Q12.out.below nb)
  have Q13 : Hid (Rd .i64 w13 A13 (dig D4 ((m * 2 + 1) * (10 ^ q10 * 2 ^ p2)))) := o.rd
  have hB := hB.trans (nb.mono hB.size)
  clear o nb
  go_wp2_with fail
  refine (CC.out A9 A13 d9 d13 _ _ _ (by omega) (by omega) Q9.out Q13.out).mono ?_
  rintro e w14 ⟨rfl, nd, hm⟩
  have hB : Below w.heap.size w w14 := by rw [hm]; exact below_drewN' hB nd
  clear hm
  go_wp2
  go_ret
  exact ⟨rfl, hB⟩
end Go.Proofs.YtkjdmjglpbnmoaaGreatDoor

namespace Go.Proofs.YtkjdmjglpbnmoaaGreatDoor
open Go.RowKit Go.Lib

/-- The definition's Text: the four digits of a piece. -/
def quad (x : Nat) : List Nat := [x / 1000, x / 100 % 10, x / 10 % 10, x % 10]
theorem quad_lim {x : Nat} (h : x < 10000) : Lim 10 (quad x) := by
  intro y hy
  simp [quad] at hy
  omega
/-- The digits so far, the highest first. -/
structure RTxt (xs ds : List Nat) (k : Nat) : Prop where
  len : ds.length = 4 * (xs.length - k)
  lim : Lim 10 ds
  eq : vl 10 ds.reverse = vl D4 (xs.drop k)
theorem rtxt_start (xs : List Nat) : RTxt xs [] xs.length := ⟨by simp, lim_nil _, by rw [List.drop_length]; rfl⟩
theorem rtxt_step {xs ds : List Nat} {k : Nat} (h : RTxt xs ds (k + 1)) (hk : k < xs.length) (hx : Lim D4 xs) : RTxt xs (ds ++ quad xs[k]) k := by
  have hb := lim_get hx k hk
  refine ⟨?_, lim_append.2 ⟨h.lim, quad_lim hb⟩, ?_⟩
  · rw [List.length_append, h.len]
    show _ + 4 = _
    omega
  · rw [drop_get xs k hk, vl_cons, ← h.eq, List.reverse_append]
    obtain ⟨x, hxe⟩ : ∃ x, xs[k] = x := ⟨_, rfl⟩
    rw [hxe] at hb ⊢
    show vl 10 ((x % 10) :: (x / 10 % 10) :: (x / 100 % 10) :: (x / 1000) :: ds.reverse) = x + 10000 * vl 10 ds.reverse
    simp only [vl_cons]
    omega
/-- The noughts ahead. -/
theorem dropWhile_at {ds : List Nat} {k : Nat} (hk : k < ds.length) (h0 : ∀ j (hj : j < ds.length), j < k → ds[j] = 0) (hne : ds[k] ≠ 0) : ds.dropWhile (· == 0) = ds.drop k := by
  induction k generalizing ds with
  | zero =>
    cases ds with
    | nil => simp at hk
    | cons x l =>
      rw [List.dropWhile_cons, if_neg (by simpa using hne), List.drop_zero]
  | succ k ih =>
    cases ds with
    | nil => simp at hk
    | cons x l =>
      have hx : x = 0 := h0 0 (by simp) (by omega)
      rw [List.dropWhile_cons, if_pos (by simpa using hx), List.drop_succ_cons]
      exact ih (by simpa using hk) (fun j hj h => h0 (j + 1) (by simpa using hj) (by omega)) hne
theorem vl_pos_ex {ds : List Nat} (h : ∀ j (hj : j < ds.length), ds[j] = 0) : vl 10 ds.reverse = 0 := by
  have : ds = List.replicate ds.length 0 := by
    apply List.ext_getElem
    · simp
    · intro i h1 h2; rw [List.getElem_replicate]; exact h i h1
  rw [this, List.reverse_replicate, vl_zeros]
theorem rtxt_end {xs ds : List Nat} {k : Nat} (h : RTxt xs ds 0) (hn : vl D4 xs ≠ 0) (hk : k < ds.length) (h0 : ∀ j (hj : j < ds.length), j < k → ds[j] = 0) (hne : ds[k] ≠ 0) : decs (vl D4 xs) = (ds.drop k).map db := by
  have e := h.eq
  rw [List.drop_zero] at e
  rw [← e, decs_pv (fun x hx => h.lim x (List.mem_reverse.1 hx)) (by rw [e]; exact hn), List.reverse_reverse, dropWhile_at hk h0 hne]
/-- The definition's Parse: pieces of four digits from the end. -/
structure RPar (l : List UInt8) (ds : List Nat) (m : Nat) : Prop where
  lim : Lim D4 ds
  eq : vl D4 ds = pv (l.drop m)
  pow : 0 < m → 10 ^ (l.length - m) = D4 ^ ds.length
theorem rpar_start (l : List UInt8) : RPar l [] l.length := ⟨lim_nil _, by rw [List.drop_length]; rfl, fun _ => by simp⟩
theorem pv_lt4 {l : List UInt8} (h : Dec l) (hl : l.length ≤ 4) : pv l < 10000 := by
  have h1 := pv_lt h
  have h2 : 10 ^ l.length ≤ 10 ^ 4 := Nat.pow_le_pow_right (by omega) hl
  exact Nat.lt_of_lt_of_le h1 h2
theorem drop_split {l : List UInt8} {m m' : Nat} (h : m' ≤ m) : l.drop m' = (l.drop m').take (m - m') ++ l.drop m := by
  have := (List.take_append_drop (m - m') (l.drop m')).symm
  rwa [List.drop_drop, show m' + (m - m') = m by omega] at this
theorem rpar_step {l : List UInt8} {ds : List Nat} {m m' : Nat} (h : RPar l ds m) (hd : Dec l) (hm0 : 0 < m) (hm : m ≤ l.length) (he : m' = m - 4) : RPar l (ds ++ [pv ((l.drop m').take (m - m'))]) m' := by
  have hp := h.pow hm0
  refine ⟨lim_append.2 ⟨h.lim, lim_one.2 (pv_lt4 (dec_take (dec_drop hd _) _) (by rw [List.length_take]; omega))⟩, ?_, ?_⟩
  · rw [vl_snoc, h.eq, ← hp, drop_split (show m' ≤ m by omega), pv_append, List.length_drop, Nat.mul_comm]
    have e : (((l.drop m').take (m - m') ++ l.drop m).take (m - m')) = (l.drop m').take (m - m') := by
      rw [List.take_append_of_le_length (by rw [List.length_take, List.length_drop]; omega), List.take_take, Nat.min_self]
    rw [e]
    omega
  · intro h0
    rw [List.length_append, List.length_singleton, Nat.pow_succ, ← hp, show l.length - m' = (l.length - m) + 4 by omega, Nat.pow_add]
theorem rpar_end {l : List UInt8} {ds : List Nat} (h : RPar l ds 0) : vl D4 ds = pv l := by
  have := h.eq
  rwa [List.drop_zero] at this

theorem cells_four (w : World) (a b c d : Value) (t : TypeId) : ∀ j u, [a, b, c, d][j]? = some u → (w.alloc (.cells #[a, b, c, d] t)).cell? ((⟨w.heap.size, 0, none⟩ : Addr).add j) = some u :=
  (World.ownsRow_lit (base := w.heap.size) (e := t) (size := 1) w #[a, b, c, d] 4 (Nat.le_refl _) (by decide) rfl).cells (g := w.heap.size) rfl
theorem quad_cells {x : Nat} {a b c d : Int} (ha : a = ((48 + x / 1000 : Nat) : Int)) (hb : b = ((48 + x / 100 % 10 : Nat) : Int)) (hc : c = ((48 + x / 10 % 10 : Nat) : Int)) (hd : d = ((48 + x % 10 : Nat) : Int)) :
    [Value.int .u8 a, .int .u8 b, .int .u8 c, .int .u8 d] = nums .u8 (d8 (quad x)) := by
  subst ha hb hc hd
  rfl
theorem d8_app (a b : List Nat) : d8 (a ++ b) = d8 a ++ d8 b := by simp [d8]
theorem Own.more {κ : IntKind} {w : World} {B : Nat} {t : TypeId} {v : Value} {xs ys : List Nat} {k m : Nat} {cs : List Value} (h : w.ownsRow B t 1 v (k + m) (nums κ xs ++ cs)) (hc : cs = nums κ ys) (hk : k = xs.length) (hm : m = ys.length) : Own κ w B t v (xs ++ ys) := by
  subst hc
  exact Own.append h hk hm
theorem fwd_bytes {ds : List Nat} (h : Lim 10 ds) : nums .u8 (d8 ds) = (ds.map db).map fun x => Value.int .u8 x.toNat := by
  have := rev_bytes (ds := ds.reverse) (fun x hx => h x (List.mem_reverse.1 hx))
  rw [List.reverse_reverse] at this
  rw [← this, d8, d8, List.map_reverse, List.reverse_reverse]
/-- 'string(out[k:])'. -/
theorem conv_from (W : World) (B g cap k : Nat) (ds : List Nat) (hl : Lim 10 ds) (hO : Own .u8 W B 5 (.slice (some ⟨g, 0, none⟩) ds.length cap) (d8 ds)) (hk : k ≤ ds.length) :
    (convert 94 9 (.slice (some ⟨g, k, none⟩) (ds.length - k) (cap - k))).run Tryz.prog W = .ok (.string ⟨((ds.drop k).map db).toArray⟩) W := by
  have e : ds.length - k = ((ds.drop k).map db).length := by simp
  rw [e]
  refine run_convert_bytes_back (P := Tryz.prog) W 94 9 5 ⟨g, k, none⟩ (cap - k) ((ds.drop k).map db) Tryz.underlying94 Tryz.underlying5 Tryz.underlying9 (fun j hj => ?_)
  rw [List.length_map, List.length_drop] at hj
  have hc := hO.cell (k + j) (by rw [d8_len]; omega)
  rw [Addr.add_lit, hc]
  have h1 : (d8 ds)[k + j]'(by rw [d8_len]; omega) = 48 + ds[k + j]'(by omega) := by simp [d8]
  have h2 : ((ds.drop k).map db)[j]'(by simp; omega) = db (ds[k + j]'(by omega)) := by simp
  rw [h1, h2, db_toNat (lim_get hl (k + j) (by omega))]

set_option maxRecDepth 100000 in
set_option maxHeartbeats 4000000 in
theorem rtext_any (A : Option Addr) (ca : Nat) (xs : List Nat) (w : World) (hx : Norm D4 xs) (hxn : xs.length ≤ 100000) (hra : Rd .i64 w A xs) :
    Calls Tryz.prog 62 #[.slice A xs.length ca] w fun e w' => e = .returned (.string ⟨(decs (vl D4 xs)).toArray⟩) ∧ Below w.heap.size w w' := by
  by_cases hx0 : xs = []
  · have hb : ((xs.length : Int) == 0) = true := by rw [hx0]; rfl
    have HD := Lib.hid (show decs (vl D4 xs) = [48] by rw [hx0]; rfl)
    clear hx0 hx hra
    go_enter Tryz.func62, Tryz.ntmps62
    go_wp2
    go_ret
    exact ⟨by rw [HD.out]; rfl, Below.refl _ _⟩
  obtain ⟨i0, hi, hz0, hz1, hz2⟩ := info_parts info_u8
  have hlen := List.length_pos_iff.2 hx0
  have hb : ((xs.length : Int) == 0) = false := by rw [beq_eq_false_iff_ne]; omega
  have hpos := vl_top (B := D4) hx.2 hx0
  have hpp : 0 < D4 ^ (xs.length - 1) := Nat.pow_pos (by decide)
  have HNZ := Lib.hid (show vl D4 xs ≠ 0 by omega)
  have hL := hx.1
  clear hx hx0 hpos hpp
  go_enter Tryz.func62, Tryz.ntmps62
  go_wp2
  go_loopw [3, 4] (fun v i wr => ∃ (k : Nat) (ds : List Nat), k ≤ xs.length ∧ i = .int .i64 ((k : Int) - 1) ∧ Own .u8 wr w.heap.size 5 v (d8 ds) ∧ RTxt xs ds k ∧ Below w.heap.size w wr) (fun _ i _ => (RowKit.intOf i + 1).toNat)
  case atStart => exact ⟨xs.length, [], Nat.le_refl _, rfl, Own.nil _ _ _, rtxt_start xs, Below.refl _ _⟩
  case round =>
    obtain ⟨k, ds, hk, rfl, hO, hR, hB⟩ := hrel
    obtain ⟨A3, c3, rfl, hc3⟩ := hO.slice
    have hdl := hR.len
    rw [d8_len] at hO hc3 ⊢
    rcases k with _ | k
    · have hdp : 0 < ds.length := by omega
      obtain ⟨g, rfl, hg⟩ := hO.addr (by rw [d8_len]; exact hdp)
      have HR := Lib.hid hR
      have HO := Lib.hid hO
      have hlm := hR.lim
      have hdb4 : ds.length ≤ 400000 := by omega
      clear hR hO hdl
      go_wp2
      go_loop [6] (fun q => ∃ m : Nat, m < ds.length ∧ q = .int .i64 m ∧ ∀ j (hj : j < ds.length), j < m → ds[j] = 0) (fun q => ds.length - (RowKit.intOf q).toNat)
      case atStart => exact ⟨0, hdp, rfl, fun j _ h => absurd h (by omega)⟩
      case round =>
        obtain ⟨m, hm, rfl, h0⟩ := hrel
        obtain ⟨d, hde⟩ : ∃ d, ds[m] = d := ⟨_, rfl⟩
        have hd10 : d < 10 := by rw [← hde]; exact lim_get hlm m hm
        have hc := HO.out.cell m (by rw [d8_len]; exact hm)
        have he : (d8 ds)[m]'(by rw [d8_len]; exact hm) = 48 + d := by rw [← hde]; simp [d8]
        rw [he] at hc
        have HDE := Lib.hid hde
        have H0 := Lib.hid h0
        clear hde he h0
        by_cases hd0 : d = 0
        · subst hd0
          have hm1 : m + 1 < ds.length := by
            rcases Nat.lt_or_ge (m + 1) ds.length with h | h
            · exact h
            · have hz := vl_pos_ex (ds := ds) (fun j hj => by
                by_cases e : j = m
                · subst e; exact HDE.out
                · exact H0.out j hj (by omega))
              have e := HR.out.eq
              rw [List.drop_zero, hz] at e
              exact absurd e.symm HNZ.out
          go_wp2
          go_round
          case rel => exact ⟨m + 1, hm1, by go_num, fun j hj h => by
            by_cases e : j = m
            · subst e; exact HDE.out
            · exact H0.out j hj (by omega)⟩
          case measure => simp [RowKit.intOf]; omega
        · have hdb : (((48 + d : Nat) : Int) == 48) = false := by rw [beq_eq_false_iff_ne]; omega
          have hdb2 : (48 + (d : Int) == 48) = false := by rw [beq_eq_false_iff_ne]; omega
          have HE := Lib.hid (show decs (vl D4 xs) = List.drop m (List.map db ds) by rw [rtxt_end HR.out HNZ.out hm H0.out (by rw [HDE.out]; exact hd0), List.map_drop])
          have hcv := conv_from wr w.heap.size g c3 m ds hlm HO.out (by omega)
          have hcm : ¬ c3 = m := by omega
          clear HO
          go_wp2
          go_ret
          exact ⟨by rw [HE.out]; rfl, hB⟩
    · have hlx : k < xs.length := hk
      obtain ⟨g, o, rfl, hc⟩ := (hra.below hB) k hlx
      obtain ⟨x, hxe, hxk⟩ := lim4 hL k hlx
      rw [hxe] at hc
      have hS := rtxt_step hR hlx hL
      rw [hxe] at hS
      have HS := Lib.hid hS
      have hown := hO.row (n := ds.length) (d8_len ds)
      have hsz := hB.size
      have hdb : ds.length ≤ 400000 := by omega
      have hw1 : IntKind.u8.wrap (48 + (x : Int) / 1000) = 48 + (x : Int) / 1000 := IntWalk.u8_in _ (by omega)
      have hw2 : IntKind.u8.wrap (48 + (x : Int) / 100 % 10) = 48 + (x : Int) / 100 % 10 := IntWalk.u8_in _ (by omega)
      have hw3 : IntKind.u8.wrap (48 + (x : Int) / 10 % 10) = 48 + (x : Int) / 10 % 10 := IntWalk.u8_in _ (by omega)
      have hw4 : IntKind.u8.wrap (48 + (x : Int) % 10) = 48 + (x : Int) % 10 := IntWalk.u8_in _ (by omega)
      clear hR hO hS hxe hdl hc3
      rw [show ((k + 1 : Nat) : Int) - 1 = (k : Int) by omega]
      go_wp2_with (at_builtin; refine wpList_append_own _ rfl _ _ 94 rfl w.heap.size 5 i0 (.int .u8 0) 1 1 Tryz.underlying94 hi hz0 hz1 hz2 rfl (by decide) _ _ _ rfl (hown.alloc _) ⟨wr.heap.size, 0, none⟩ 4 4 _ rfl rfl (cells_four _ _ _ _ _ _) ?c2 ?c3 ?c4 ?c5 ?_)
      case c2 => simp [Value.oneCell']
      case c3 => unfold maxLen; omega
      case c4 => omega
      case c5 => first | omega | (simp; omega)
      intro v' w4 hown' hgrow _
      have hB4 : Below w.heap.size w w4 := (hB.alloc hsz _).grown hgrow (by simp; omega) (fun z e => (hown.lt z e).1)
      have hO4 := Own.more (ys := d8 (quad x)) hown' (quad_cells (by omega) (by omega) (by omega) (by omega)) (d8_len ds).symm rfl
      rw [← d8_app] at hO4
      have HO1 := Lib.hid hO4
      clear hown hown' hgrow hO4 hw1 hw2 hw3 hw4
      go_wp2
      go_roundw
      case rel => exact ⟨k, ds ++ quad x, by omega, rfl, HO1.out, HS.out, hB4⟩
      case measure => simp [RowKit.intOf]
end Go.Proofs.YtkjdmjglpbnmoaaGreatDoor

namespace Go.Proofs.YtkjdmjglpbnmoaaGreatDoor
open Go.RowKit Go.Lib

/-- What the definition's Parse answers. -/
noncomputable def rparRes (s : ByteArray) : List Nat := if isDec s = true then dig D4 (pv s.data.toList) else []
/-- How it ends. -/
def RParEnd (f : Bool) (zs : List Nat) (w : World) (e : Ending) (w' : World) : Prop := ∃ v, e = .returned (.tuple #[v, .bool f]) ∧ Own .i64 w' w.heap.size 3 v zs ∧ Below w.heap.size w w'
theorem pv_take_more {l : List UInt8} {m' j : Nat} (hj : j < l.length) (h : m' ≤ j) : pv ((l.drop m').take (j + 1 - m')) = pv ((l.drop m').take (j - m')) * 10 + ((l[j]).toNat - 48) := by
  have h1 : j - m' < (l.drop m').length := by rw [List.length_drop]; omega
  rw [show j + 1 - m' = (j - m') + 1 by omega, List.take_succ_eq_append_getElem h1, pv_snoc]
  have h2 : (l.drop m')[j - m'] = l[j] := by
    rw [List.getElem_drop]
    congr 1
    omega
  rw [h2]

set_option maxRecDepth 100000 in
set_option maxHeartbeats 4000000 in
theorem rparse_any (s : ByteArray) (w : World) (hs : s.size ≤ 4194304) :
    Calls Tryz.prog 24 #[.string s] w (RParEnd (isDec s) (rparRes s) w) := by
  by_cases h0 : s.size = 0
  · have HR := Lib.hid (show isDec s = false from isDec_no.2 (fun h => by omega))
    have he : s.toList = [] := by rw [Lib.toList_data]; exact ba_nil h0
    have he2 : s.toList.isEmpty = true := by rw [he]; rfl
    clear h0
    go_enter Tryz.func24, Tryz.ntmps24
    go_wp2
    go_ret2
    exact ⟨_, by rw [HR.out]; rfl, by rw [rparRes, if_neg (by rw [HR.out]; decide)]; exact Own.nil _ _ _, Below.refl _ _⟩
  obtain ⟨i0, hi, hz0, hz1, hz2⟩ := info_parts info_i64
  have he2 : s.toList.isEmpty = false := by
    rw [Lib.toList_data]
    cases h : s.data.toList with
    | nil => exact absurd (by rw [← ba_len, h]; rfl) h0
    | cons _ _ => rfl
  have he3 : ¬ s.toList = [] := by
    intro e; rw [e] at he2; cases he2
  have hpos : 0 < s.size := by omega
  clear h0
  go_enter Tryz.func24, Tryz.ntmps24
  go_wp2
  go_loop [4] (fun i => ∃ k : Nat, k ≤ s.size ∧ i = .int .i64 k ∧ Dec (s.data.toList.take k)) (fun i => s.size - (RowKit.intOf i).toNat)
  case atStart => exact ⟨0, Nat.zero_le _, rfl, fun _ h => by simp at h⟩
  case round =>
    obtain ⟨k, hk, rfl, hd⟩ := hrel
    by_cases hlt : k < s.size
    · by_cases h1 : s[k].toNat < 48
      · have HR := Lib.hid (show isDec s = false from isDec_no.2 (fun h => by have := (dec_at h.2 k hlt).1; omega))
        clear hd
        go_wp2
        go_ret2
        exact ⟨_, by rw [HR.out]; rfl, by rw [rparRes, if_neg (by rw [HR.out]; decide)]; exact Own.nil _ _ _, Below.refl _ _⟩
      · by_cases h2 : 57 < s[k].toNat
        · have HR := Lib.hid (show isDec s = false from isDec_no.2 (fun h => by have := (dec_at h.2 k hlt).2; omega))
          clear hd
          go_wp2
          go_ret2
          exact ⟨_, by rw [HR.out]; rfl, by rw [rparRes, if_neg (by rw [HR.out]; decide)]; exact Own.nil _ _ _, Below.refl _ _⟩
        · have hd2 := dec_snoc hd (show 48 ≤ s[k].toNat ∧ s[k].toNat ≤ 57 by omega)
          rw [← ba_take_snoc s k hlt] at hd2
          have HD := Lib.hid hd2
          clear hd hd2
          go_wp2
          go_round
          case rel => exact ⟨k + 1, hlt, by go_num, HD.out⟩
          case measure => simp [RowKit.intOf]; omega
    · obtain rfl : k = s.size := by omega
      rw [← ba_len, List.take_length] at hd
      have HR := Lib.hid (isDec_iff.2 ⟨hpos, hd⟩)
      have HDEC := Lib.hid hd
      clear hd he2 he3 hlt hk
      go_wp2
      go_loopw [5, 6] (fun v q wr => ∃ (m : Nat) (E : Int) (ds : List Nat), q = .int .i64 E ∧ ((0 < m ∧ E = m) ∨ (m = 0 ∧ -4 < E ∧ E ≤ 0)) ∧ m ≤ s.size ∧ ds.length ≤ s.size - m ∧ Own .i64 wr w.heap.size 3 v ds ∧ RPar s.data.toList ds m ∧ Below w.heap.size w wr) (fun _ q _ => (RowKit.intOf q).toNat)
      case atStart => exact ⟨s.size, _, [], rfl, .inl ⟨hpos, rfl⟩, Nat.le_refl _, Nat.zero_le _, Own.nil _ _ _, by have := rpar_start s.data.toList; rwa [ba_len] at this, Below.refl _ _⟩
      case round =>
        obtain ⟨m, E, ds, rfl, hE, hms, hdl, hO, hP, hB⟩ := hrel
        obtain ⟨A5, c5, rfl, _⟩ := hO.slice
        by_cases hm : 0 < m
        · obtain rfl : E = (m : Int) := by omega
          obtain ⟨m', hm'⟩ : ∃ m', m - 4 = m' := ⟨_, rfl⟩
          have hmx : max ((m : Int) - 4) 0 = (m' : Int) := by omega
          have hmi2 : (if (m : Int) - 4 < 0 then (0 : Int) else (m : Int) - 4) = (m' : Int) := by split <;> omega
          have hmi3 : (if (0 : Int) ≤ (m : Int) - 4 then (m : Int) - 4 else (0 : Int)) = (m' : Int) := by split <;> omega
          have hm4 : m' ≤ m := by omega
          have hm5 : m ≤ m' + 4 := by omega
          have HST := Lib.hid (rpar_step hP HDEC.out hm (by rw [ba_len]; exact hms) hm'.symm)
          have HM := Lib.hid hm'
          have hown := hO.row (n := ds.length) rfl
          have HOWN := Lib.hid hown
          have hsz := hB.size
          clear hP hO hE hm' hown
          go_wp2
          clear hmx hmi2 hmi3
          obtain ⟨wo, rfl⟩ : ∃ wo : World, wo = wr := ⟨wr, rfl⟩
          go_loop [7, 8] (fun a i => ∃ j : Nat, m' ≤ j ∧ j ≤ m ∧ i = .int .i64 j ∧ a = .int .i64 (pv ((s.data.toList.drop m').take (j - m')) : Nat)) (fun _ i => m - (RowKit.intOf i).toNat)
          case atStart => exact ⟨m', Nat.le_refl _, hm4, rfl, by rw [Nat.sub_self]; rfl⟩
          case round =>
            obtain ⟨j, hj1, hj2, rfl, rfl⟩ := hrel
            have hvl := pv_lt4 (dec_take (dec_drop HDEC.out m') (j - m')) (by rw [List.length_take]; omega)
            by_cases hjm : j < m
            · have hjs : j < s.size := by omega
              obtain ⟨c1, c2⟩ := dec_at HDEC.out j hjs
              have hmore := pv_take_more (l := s.data.toList) (by rw [ba_len]; exact hjs) hj1
              have hsj : s.data.toList[j]'(by rw [ba_len]; exact hjs) = s[j] := rfl
              rw [hsj] at hmore
              obtain ⟨V, hV⟩ : ∃ V, pv ((s.data.toList.drop m').take (j - m')) = V := ⟨_, rfl⟩
              rw [hV] at hvl hmore
              rw [hV]
              have HMORE := Lib.hid hmore
              clear hmore hV hsj
              go_wp2
              go_round
              case rel => exact ⟨j + 1, by omega, hjm, by go_num, by rw [HMORE.out]; exact vint (by omega)⟩
              case measure => simp [RowKit.intOf]; omega
            · obtain rfl : j = m := by omega
              obtain ⟨V, hV⟩ : ∃ V, pv ((s.data.toList.drop m').take (j - m')) = V := ⟨_, rfl⟩
              have hst := HST.out
              rw [hV] at hst hvl
              rw [hV]
              have HST2 := Lib.hid hst
              have hown := HOWN.out
              have hmm := HM.out
              have hmn : m' ≤ j - 1 := by omega
              have hE2 : ((0 < m' ∧ (j : Int) - 4 = m') ∨ (m' = 0 ∧ -4 < (j : Int) - 4 ∧ (j : Int) - 4 ≤ 0)) := by omega
              have HE2 := Lib.hid hE2
              clear hst hV hmm hE2 HST HOWN hj1 hj2 hjm
              go_wp2_with (at_builtin; refine wpList_append_own _ rfl _ _ 56 rfl w.heap.size 3 i0 (.int .i64 0) 1 8 Tryz.underlying56 hi hz0 hz1 hz2 rfl (by decide) _ _ _ rfl (hown.alloc _) ⟨wo.heap.size, 0, none⟩ 1 1 [.int .i64 (V : Nat)] rfl rfl (cell_one_new _ _ _) ?c2 ?c3 ?c4 ?c5 ?_)
              case c2 => simp [Value.oneCell']
              case c3 => unfold maxLen; omega
              case c4 => omega
              case c5 => first | omega | (simp; omega)
              intro v' w4 hown' hgrow _
              have hB4 : Below w.heap.size w w4 := (hB.alloc hsz _).grown hgrow (by simp; omega) (fun z e => (hown.lt z e).1)
              have HO1 := Lib.hid (Own.snoc hown' rfl)
              clear hown hown' hgrow
              go_wp2
              go_roundw
              case rel => exact ⟨m', _, _, rfl, HE2.out, by omega, by rw [List.length_append, List.length_singleton]; omega, HO1.out, HST2.out, hB4⟩
              case measure => simp [RowKit.intOf]; omega
        · obtain rfl : m = 0 := by omega
          have hE0 : E ≤ 0 := by omega
          have he := rpar_end hP
          have cT := rtrim_own _ _ ds wr hP.lim (by omega) hO
          rw [he] at cT
          have CT := Lib.hid cT
          clear cT hO hP he hE
          go_wp2_with fail
          refine CT.out.mono ?_
          rintro e w' ⟨⟨v', rfl, hO7⟩, rfl⟩
          have HO7 := Lib.hid hO7
          clear hO7 CT
          go_wp2
          go_ret2
          exact ⟨_, by rw [HR.out]; rfl, by rw [rparRes, if_pos HR.out]; exact HO7.out, hB⟩
end Go.Proofs.YtkjdmjglpbnmoaaGreatDoor

namespace Go.Proofs.YtkjdmjglpbnmoaaGreatDoor
open Go.RowKit Go.Lib

theorem cmpZ_scale {a b k : Nat} (hk : 0 < k) : cmpZ (a * k) (b * k) = cmpZ a b := by
  rcases Nat.lt_trichotomy a b with h | h | h
  · rw [cmpZ_lt h, cmpZ_lt (Nat.mul_lt_mul_of_pos_right h hk)]
  · subst h; rw [cmpZ_eq rfl, cmpZ_eq rfl]
  · rw [cmpZ_gt h, cmpZ_gt (Nat.mul_lt_mul_of_pos_right h hk)]
/-- The middle behind the float of rung q, times D. -/
def mid2 (D q : Nat) : Nat := (V q + V (q + 1)) * D
theorem mid2_lt {D q q' : Nat} (hD : 0 < D) (h : q < q') : mid2 D q < mid2 D q' := by
  unfold mid2
  refine Nat.mul_lt_mul_of_pos_right ?_ hD
  have h1 := V_lt h
  have h2 := V_lt (show q + 1 < q' + 1 by omega)
  omega
/-- What 'above' compares. -/
theorem above_mid (n r : Nat) (x : Int) (hr : r < 9218868437227405312) : cmpZ (abL n x r) (abR x r) = cmpZ (2 * (n * 10 ^ x.toNat) * S1074) (mid2 (10 ^ (-x).toNat) r) := by
  obtain ⟨c, hc⟩ : ∃ c : Nat, c = 1074 := ⟨_, rfl⟩
  have he := expF_bd hr
  obtain ⟨t, ht⟩ : ∃ t : Nat, t = 1075 - (-(expF r - 1)).toNat := ⟨_, rfl⟩
  rw [← cmpZ_scale (k := 2 ^ t) (Nat.pow_pos (by omega))]
  have e1 : abL n x r * 2 ^ t = 2 * (n * 10 ^ x.toNat) * S1074 := by
    rw [S_eq c hc]
    have e : 2 ^ (-(expF r - 1)).toNat * 2 ^ t = 2 * 2 ^ c := by
      rw [← Nat.pow_add, ← Nat.pow_succ', show (-(expF r - 1)).toNat + t = c.succ by omega]
    unfold abL
    calc n * (10 ^ x.toNat * 2 ^ (-(expF r - 1)).toNat) * 2 ^ t = n * 10 ^ x.toNat * (2 ^ (-(expF r - 1)).toNat * 2 ^ t) := by ac_rfl
      _ = n * 10 ^ x.toNat * (2 * 2 ^ c) := by rw [e]
      _ = 2 * (n * 10 ^ x.toNat) * 2 ^ c := by ac_rfl
  have e2 : abR x r * 2 ^ t = mid2 (10 ^ (-x).toNat) r := by
    unfold mid2
    rw [V_succ]
    have hU : U r = 2 ^ (expF r - -1074).toNat := by
      unfold U expF
      split
      · rw [show r / 4503599627370496 - 1 = 0 by omega, show ((-1074 : Int) - -1074).toNat = 0 by omega]
      · congr 1
        omega
    have hV : V r = manF r * U r := by rw [← val_V, Nat.shiftLeft_eq, hU]
    have e : 2 ^ (expF r - 1).toNat * 2 ^ t = U r := by
      rw [hU, ← Nat.pow_add]
      congr 1
      omega
    unfold abR
    rw [hV]
    generalize U r = u at *
    generalize manF r = m at *
    generalize 10 ^ (-x).toNat = D at *
    generalize 2 ^ (expF r - 1).toNat = z at *
    generalize 2 ^ t = y at *
    calc (m * 2 + 1) * (D * z) * y = (m * 2 + 1) * (z * y) * D := by ac_rfl
      _ = (m * 2 + 1) * u * D := by rw [e]
      _ = (m * u + (m * u + u)) * D := by
        congr 1
        rw [Nat.add_mul, Nat.mul_right_comm, Nat.one_mul]
        omega
  rw [e1, e2]
/-- Beyond the powers that the definition looks at. -/
theorem near_far_low {n c t : Nat} (hc : 1349 ≤ c) (ht : t = 1024) (hn : n < 10 ^ t) : Near (2 * n * S1074) (10 ^ c) 0 := by
  refine ⟨fun q e => absurd e (by omega), fun q e => absurd e (by omega), fun _ => ?_, fun _ _ => rfl, by omega⟩
  obtain ⟨f, hf⟩ : ∃ f : Nat, f = 1074 := ⟨_, rfl⟩
  rw [S_eq f hf, show V 0 + V (0 + 1) = 1 by decide, Nat.one_mul]
  have h4 := big325 325 (f + 1) rfl (by omega)
  have h5 : 10 ^ (t + 325) ≤ 10 ^ c := Nat.pow_le_pow_right (by omega) (by omega)
  refine Nat.le_trans ?_ h5
  rw [Nat.pow_add]
  have h7 : 2 * n * 2 ^ f ≤ 2 * 10 ^ t * 2 ^ f := Nat.mul_le_mul_right _ (by omega)
  have h9 : 2 * 10 ^ t * 2 ^ f = 10 ^ t * 2 ^ (f + 1) := by rw [Nat.pow_succ, Nat.mul_comm 2, Nat.mul_assoc, Nat.mul_comm 2]
  exact Nat.le_trans h7 (by rw [h9]; exact Nat.mul_le_mul_left _ h4)
theorem near_far_top {n c : Nat} (hn : 0 < n) (hc : 310 ≤ c) : Near (2 * (n * 10 ^ c) * S1074) 1 9218868437227405312 := by
  refine ⟨fun q hq => ?_, fun _ _ _ => rfl, fun h => absurd h (by omega), fun h => absurd h (by omega), Nat.le_refl _⟩
  obtain ⟨f, hf⟩ : ∃ f : Nat, f = 1074 := ⟨_, rfl⟩
  obtain ⟨d, hd⟩ : ∃ d : Nat, d = 1025 := ⟨_, rfl⟩
  obtain ⟨c0, hc0⟩ : ∃ c0 : Nat, c0 = 310 := ⟨_, rfl⟩
  have h4 := big310 c0 d hc0 hd
  have h5 := V_inf (d - 51 + f - 2) (by omega)
  have h6 : 4503599627370496 * 2 ^ (d - 51 + f - 2) = 2 ^ (d - 1) * 2 ^ f := by
    rw [show (4503599627370496 : Nat) = 2 ^ 52 by decide, ← Nat.pow_add, ← Nat.pow_add, show 52 + (d - 51 + f - 2) = d - 1 + f by omega]
  have h7 : 2 ^ d = 2 * 2 ^ (d - 1) := by rw [← Nat.pow_succ', show (d - 1).succ = d by omega]
  have h9 : 10 ^ c0 ≤ 10 ^ c := Nat.pow_le_pow_right (by omega) (by omega)
  have h8 : 2 * (1 * 2 ^ (d - 1)) * 2 ^ f ≤ 2 * (n * 10 ^ c) * 2 ^ f := Nat.mul_le_mul_right _ (Nat.mul_le_mul_left _ (Nat.mul_le_mul hn (by omega)))
  rw [Nat.one_mul, Nat.mul_assoc] at h8
  have h2 := V_lt (show q < 9218868437227405312 by omega)
  rw [S_eq f hf, Nat.mul_one]
  rw [h5, h6] at h2 ⊢
  generalize 2 ^ (d - 1) * 2 ^ f = z at *
  omega
set_option maxRecDepth 100000 in
set_option maxHeartbeats 1000000 in
theorem rread_no (s : ByteArray) (x : Int) (w : World) (hs : s.size ≤ 4194304) (hd : isDec s = false) :
    Calls Tryz.prog 7 #[.string s, .int .i64 x] w fun e w' => e = .returned (.tuple #[.float .f64 0, .int .i64 30]) ∧ Below w.heap.size w w' := by
  have cP := rparse_any s w hs
  rw [hd] at cP
  have CP := Lib.hid cP
  clear cP hd
  go_enter Tryz.func7, Tryz.ntmps7
  go_wp2_with fail
  refine CP.out.mono ?_
  rintro e w1 ⟨v, rfl, o, nb⟩
  obtain ⟨A1, d1, rfl, _⟩ := o.slice_
  clear o
  go_wp2
  go_ret2
  exact ⟨rfl, nb⟩
set_option maxRecDepth 100000 in
set_option maxHeartbeats 1000000 in
theorem rread_long (s : ByteArray) (x : Int) (w : World) (hs : s.size ≤ 4194304) (hs2 : 1024 < s.size) (hd : isDec s = true) :
    Calls Tryz.prog 7 #[.string s, .int .i64 x] w fun e w' => e = .returned (.tuple #[.float .f64 0, .int .i64 3]) ∧ Below w.heap.size w w' := by
  have cP := rparse_any s w hs
  rw [hd] at cP
  have CP := Lib.hid cP
  clear cP hd
  go_enter Tryz.func7, Tryz.ntmps7
  go_wp2_with fail
  refine CP.out.mono ?_
  rintro e w1 ⟨v, rfl, o, nb⟩
  obtain ⟨A1, d1, rfl, _⟩ := o.slice_
  clear o
  go_wp2
  go_ret2
  exact ⟨rfl, nb⟩
def RRead (w : World) (X D : Nat) (e : Ending) (w' : World) : Prop := ∃ r, e = .returned (.tuple #[.float .f64 r, .int .i64 0]) ∧ Hid (Near X D r) ∧ Below w.heap.size w w'
set_option maxRecDepth 100000 in
set_option maxHeartbeats 2000000 in
theorem rread_far (s : ByteArray) (x : Int) (w : World) (hs : s.size ≤ 1024) (hd : isDec s = true) (hx : pv s.data.toList = 0 ∨ x < -1500 ∨ 400 < x) :
    Calls Tryz.prog 7 #[.string s, .int .i64 x] w (RRead w (2 * (pv s.data.toList * 10 ^ x.toNat) * S1074) (10 ^ (-x).toNat)) := by
  have cP := rparse_any s w (by omega)
  have hn := pv_lt (isDec_iff.1 hd).2
  rw [ba_len] at hn
  rw [rparRes, hd, if_pos rfl] at cP
  obtain ⟨n, hne⟩ : ∃ n, pv s.data.toList = n := ⟨_, rfl⟩
  rw [hne] at cP hn hx
  rw [hne]
  have CP := Lib.hid cP
  have hfi : ∀ W : World, (callFunc 9 #[.int .u64 9218868437227405312]).run Tryz.prog W = .ok (.value (.float .f64 9218868437227405312)) W := fun W => run_f64from 9218868437227405312 W
  by_cases h0 : n = 0
  · subst h0
    have hl : (((dig D4 0).length : Nat) : Int) = 0 := rfl
    clear cP hd hne hx
    go_enter Tryz.func7, Tryz.ntmps7
    go_wp2_with fail
    refine CP.out.mono ?_
    rintro e w1 ⟨v, rfl, o, nb⟩
    obtain ⟨A1, d1, rfl, _⟩ := o.slice_
    clear o
    go_wp2
    go_ret2
    refine ⟨0, rfl, Lib.hid ?_, nb⟩
    rw [Nat.zero_mul, Nat.mul_zero, Nat.zero_mul]
    exact near_zero (Nat.pow_pos (by omega))
  · have hlb : (((dig D4 n).length : Int) == 0) = false := by
      rw [beq_eq_false_iff_ne]
      intro e
      exact h0 (dig_nil (B := D4) (by decide) (List.eq_nil_of_length_eq_zero (by omega)))
    have HN := Lib.hid hn
    by_cases h1 : x < -1500
    · clear cP hd hne hx hn h0
      go_enter Tryz.func7, Tryz.ntmps7
      go_wp2_with fail
      refine CP.out.mono ?_
      rintro e w1 ⟨v, rfl, o, nb⟩
      obtain ⟨A1, d1, rfl, _⟩ := o.slice_
      clear o
      go_wp2
      go_ret2
      refine ⟨0, rfl, Lib.hid ?_, nb⟩
      rw [show x.toNat = 0 by omega, Nat.pow_zero, Nat.mul_one]
      obtain ⟨t, ht⟩ : ∃ t : Nat, t = 1024 := ⟨_, rfl⟩
      exact near_far_low (t := t) (by omega) ht (Nat.lt_of_lt_of_le HN.out (Nat.pow_le_pow_right (by omega) (by omega)))
    · have h2 : 400 < x := by omega
      have H0 := Lib.hid h0
      clear cP hd hne hx hn h0
      go_enter Tryz.func7, Tryz.ntmps7
      go_wp2_with fail
      refine CP.out.mono ?_
      rintro e w1 ⟨v, rfl, o, nb⟩
      obtain ⟨A1, d1, rfl, _⟩ := o.slice_
      clear o
      go_wp2
      go_ret2
      refine ⟨9218868437227405312, rfl, Lib.hid ?_, nb⟩
      rw [show (-x).toNat = 0 by omega, Nat.pow_zero]
      exact near_far_top (by have := H0.out; omega) (by omega)
end Go.Proofs.YtkjdmjglpbnmoaaGreatDoor

namespace Go.Proofs.YtkjdmjglpbnmoaaGreatDoor
open Go.RowKit Go.Lib

theorem near_first {X D r : Nat} (hr : r ≤ 9218868437227405312) (hlo : ∀ q, r = q + 1 → mid2 D q < X) (hhi : r < 9218868437227405312 → X ≤ mid2 D r) (hev : r < 9218868437227405312 → X = mid2 D r → r % 2 = 0) : Near X D r :=
  ⟨fun q hq => by subst hq; exact Nat.le_of_lt (hlo q rfl), fun q hq he => by subst hq; exact absurd he (Nat.ne_of_lt (hlo q rfl)), hhi, hev, hr⟩
theorem near_second {X D r : Nat} (hD : 0 < D) (hr : r < 9218868437227405312) (ho : r % 2 = 1) (he : X = mid2 D r) : Near X D (r + 1) := by
  have hm := mid2_lt hD (show r < r + 1 by omega)
  refine ⟨fun q hq => ?_, fun q hq _ => by omega, fun _ => by rw [he]; exact Nat.le_of_lt hm, fun _ h => absurd h (by rw [he]; exact Nat.ne_of_lt hm), by omega⟩
  obtain rfl : q = r := by omega
  rw [he]
  exact Nat.le_refl _
set_option maxRecDepth 100000 in
set_option maxHeartbeats 4000000 in
theorem rread_mid (s : ByteArray) (x : Int) (n X D : Nat) (w : World) (hs : s.size ≤ 1024) (hd : isDec s = true) (hn : pv s.data.toList = n) (h0 : n ≠ 0) (hx0 : -1500 ≤ x) (hx1 : x ≤ 400)
    (hX : 2 * (n * 10 ^ x.toNat) * S1074 = X) (hD : 10 ^ (-x).toNat = D) :
    Calls Tryz.prog 7 #[.string s, .int .i64 x] w (RRead w X D) := by
  have cP := rparse_any s w (by omega)
  have hnb := pv_lt (isDec_iff.1 hd).2
  rw [ba_len, hn] at hnb
  rw [rparRes, hd, if_pos rfl, hn] at cP
  have hl : (dig D4 n).length ≤ 1030 := by
    obtain ⟨c, hc⟩ : ∃ c : Nat, c = 1030 := ⟨_, rfl⟩
    rw [← hc]
    exact (dig_len_le (by decide) n c).2 (Nat.lt_of_lt_of_le hnb (Nat.le_trans (Nat.pow_le_pow_right (n := 10) (by omega) (show s.size ≤ c by omega)) (Nat.pow_le_pow_left (by decide) _)))
  have hlb : (((dig D4 n).length : Int) == 0) = false := by
    rw [beq_eq_false_iff_ne]
    intro e
    exact h0 (dig_nil (B := D4) (by decide) (List.eq_nil_of_length_eq_zero (by omega)))
  have hDp : 0 < D := by rw [← hD]; exact Nat.pow_pos (by omega)
  have cA := fun (A : Option Addr) (ca r : Nat) (W : World) (hr : r < 9218868437227405312) (hra : Rd .i64 W A (dig D4 n)) => above_any A ca n x r W (by omega) (by omega) hr (by omega) hra
  have hmid := fun (r : Nat) (hr : r < 9218868437227405312) => above_mid n r x hr
  rw [hX, hD] at hmid
  have cU : ∀ (A : Option Addr) (ca r : Nat) (W : World), r < 9218868437227405312 → Rd .i64 W A (dig D4 n) → Calls Tryz.prog 25 #[.slice A (dig D4 n).length ca, .int .i64 x, .int .u64 r] W fun e w' => e = .returned (.int .i64 (cmpZ X (mid2 D r))) ∧ Below W.heap.size W w' := fun A ca r W hr hra => by
    rw [← hmid r hr]; exact cA A ca r W hr hra
  have CP := Lib.hid cP
  have CU := Lib.hid cU
  have HD := Lib.hid hDp
  have hx2 : ¬ x < -1500 := by omega
  have hx3 : ¬ 400 < x := by omega
  have hfr := fun (r : Nat) (W : World) => run_f64from r W
  have HFR := Lib.hid hfr
  clear cP cA cU hmid hX hD hDp hn h0 hnb hd hfr
  go_enter Tryz.func7, Tryz.ntmps7
  go_wp2_with fail
  refine CP.out.mono ?_
  rintro e w1 ⟨v, rfl, o, nb⟩
  obtain ⟨A1, d1, rfl, _⟩ := o.slice_
  have HQ := Lib.hid o.rd
  have HB := Lib.hid nb
  have hw1 := nb.size
  clear o nb
  go_wp2_with fail
  go_loopw [8, 9] (fun lv hv wr => ∃ lo hi : Nat, lv = .int .u64 (lo : Int) ∧ hv = .int .u64 (hi : Int) ∧ lo ≤ hi ∧ hi ≤ 9218868437227405312 ∧ (∀ q, lo = q + 1 → mid2 D q < X) ∧ (hi < 9218868437227405312 → X ≤ mid2 D hi) ∧ Below w1.heap.size w1 wr) (fun lv hv _ => (RowKit.intOf hv - RowKit.intOf lv).toNat)
  case atStart => exact ⟨0, 9218868437227405312, rfl, rfl, by omega, by omega, fun q e => absurd e (by omega), fun h => absurd h (by omega), Below.refl _ _⟩
  case round =>
    obtain ⟨lo, hi, rfl, rfl, hlh, hhi, hlo, hup, hb⟩ := hrel
    have HLO := Lib.hid hlo
    have HUP := Lib.hid hup
    clear hlo hup
    by_cases hlt : lo < hi
    · obtain ⟨m, hm⟩ : ∃ m, (lo + hi) / 2 = m := ⟨_, rfl⟩
      have hmi : ((lo : Int) + (hi : Int)) / 2 = (m : Int) := by omega
      have hm1 : lo ≤ m := by omega
      have hm2 : m < hi := by omega
      clear hm
      rcases Nat.lt_or_ge (mid2 D m) X with hc | hc
      · have cz := CU.out A1 d1 m wr (by omega) (HQ.out.below hb)
        rw [cmpZ_gt hc] at cz
        have CZ := Lib.hid cz
        have HC := Lib.hid hc
        clear cz hc
        go_wp2_with fail
        refine CZ.out.mono ?_
        rintro e w2 ⟨rfl, nb⟩
        have hb2 := hb.trans (nb.mono hb.size)
        clear nb
        go_wp2_with fail
        go_roundw
        case rel => exact ⟨m + 1, hi, by go_num, rfl, by omega, hhi, fun q e => by
          obtain rfl : q = m := by omega
          exact HC.out, HUP.out, hb2⟩
        case measure => simp [RowKit.intOf]; omega
      · have cz := CU.out A1 d1 m wr (by omega) (HQ.out.below hb)
        have hz : cmpZ X (mid2 D m) ≤ 0 := by
          unfold cmpZ
          split
          · omega
          · split <;> omega
        obtain ⟨z, hze⟩ : ∃ z, cmpZ X (mid2 D m) = z := ⟨_, rfl⟩
        rw [hze] at cz hz
        have hzn : ¬ 0 < z := by omega
        have CZ := Lib.hid cz
        have HC := Lib.hid hc
        clear cz hc hze
        go_wp2_with fail
        refine CZ.out.mono ?_
        rintro e w2 ⟨rfl, nb⟩
        have hb2 := hb.trans (nb.mono hb.size)
        clear nb
        go_wp2_with fail
        go_roundw
        case rel => exact ⟨lo, m, rfl, rfl, by omega, by omega, HLO.out, fun _ => HC.out, hb2⟩
        case measure => simp [RowKit.intOf]; omega
    · obtain rfl : lo = hi := by omega
      have hB := HB.out.trans (hb.mono hw1)
      have hf1 := HFR.out lo
      by_cases hinf : lo = 9218868437227405312
      · have HI := Lib.hid hinf
        have hn1 : ¬ (lo : Int) < 9218868437227405312 := by omega
        clear hinf hlt
        go_wp2_with fail
        go_ret2
        refine ⟨lo, rfl, Lib.hid ?_, hB⟩
        exact near_first (by omega) HLO.out (fun h => absurd h (by have := HI.out; omega)) (fun h => absurd h (by have := HI.out; omega))
      · have hl1 : lo < 9218868437227405312 := by omega
        have cz := CU.out A1 d1 lo wr hl1 (HQ.out.below hb)
        have hle := HUP.out hl1
        have hl1i : (lo : Int) < 9218868437227405312 := by omega
        have HL1 := Lib.hid hl1
        by_cases hodd : lo % 2 = 1
        · have ho : ((lo : Int) % 2 == 1) = true := by rw [beq_iff_eq]; omega
          by_cases heq : X = mid2 D lo
          · rw [cmpZ_eq heq] at cz
            have CZ := Lib.hid cz
            have HE := Lib.hid heq
            have HO := Lib.hid hodd
            have hf2 := HFR.out (lo + 1)
            rw [show ((lo + 1 : Nat) : Int) = (lo : Int) + 1 by omega] at hf2
            clear cz heq hinf hlt hle hf1 hl1 hhi hodd
            go_wp2_with fail
            refine CZ.out.mono ?_
            rintro e w2 ⟨rfl, nb⟩
            have hB := hB.trans (nb.mono hB.size)
            clear nb
            go_wp2_with fail
            go_ret2
            refine ⟨lo + 1, rfl, Lib.hid ?_, hB⟩
            exact near_second HD.out HL1.out HO.out HE.out
          · have hc : X < mid2 D lo := by omega
            rw [cmpZ_lt hc] at cz
            have CZ := Lib.hid cz
            have HC := Lib.hid hc
            clear cz heq hinf hlt hle hc hl1 hhi hodd
            go_wp2_with fail
            refine CZ.out.mono ?_
            rintro e w2 ⟨rfl, nb⟩
            have hB := hB.trans (nb.mono hB.size)
            clear nb
            go_wp2_with fail
            go_ret2
            refine ⟨lo, rfl, Lib.hid ?_, hB⟩
            exact near_first (Nat.le_of_lt HL1.out) HLO.out (fun _ => Nat.le_of_lt HC.out) (fun _ he => absurd he (Nat.ne_of_lt HC.out))
        · have ho : ((lo : Int) % 2 == 1) = false := by rw [beq_eq_false_iff_ne]; omega
          have HL := Lib.hid hle
          have HO := Lib.hid hodd
          clear cz hinf hlt hle hodd hl1 hhi
          go_wp2_with fail
          go_ret2
          refine ⟨lo, rfl, Lib.hid ?_, hB⟩
          exact near_first (Nat.le_of_lt HL1.out) HLO.out (fun _ => HL.out) (fun _ _ => by have := HO.out; omega)
/-- The definition's Read. -/
theorem rread_end (s : ByteArray) (x : Int) (w : World) (hs : s.size ≤ 1024) (hd : isDec s = true) :
    Calls Tryz.prog 7 #[.string s, .int .i64 x] w (RRead w (2 * (pv s.data.toList * 10 ^ x.toNat) * S1074) (10 ^ (-x).toNat)) := by
  by_cases h : pv s.data.toList = 0 ∨ x < -1500 ∨ 400 < x
  · exact rread_far s x w hs hd h
  · exact rread_mid s x _ _ _ w hs hd rfl (by omega) (by omega) (by omega) rfl rfl
end Go.Proofs.YtkjdmjglpbnmoaaGreatDoor

namespace Go.Proofs.YtkjdmjglpbnmoaaGreatDoor
open Go.RowKit Go.Lib

set_option maxRecDepth 100000 in
set_option maxHeartbeats 2000000 in
theorem decReads_big (s : ByteArray) (x : Int) (w : World) (hs : s.size ≤ 9223372036854775807) (hb : 1100 < s.size) :
    Calls Tryz.prog 3 #[.string s, .int .i64 x] w fun e w' => e = .returned (.bool true) ∧ Below w.heap.size w w' := by
  have CF := Lib.hid (lfixed_any w)
  go_enter Tryz.func3, Tryz.ntmps3
  go_wp2_with fail
  refine CF.out.mono ?_
  rintro e w0 ⟨rfl, hB⟩
  go_wp2
  go_ret
  exact ⟨rfl, hB⟩
set_option maxRecDepth 100000 in
set_option maxHeartbeats 2000000 in
theorem decReads_no (s : ByteArray) (x : Int) (w : World) (hs : s.size ≤ 9223372036854775807) (hb : s.size ≤ 1100) (hd : isDec s = false) :
    Calls Tryz.prog 3 #[.string s, .int .i64 x] w fun e w' => e = .returned (.bool true) ∧ Below w.heap.size w w' := by
  have CF := Lib.hid (lfixed_any w)
  have CS := Lib.hid (fun x y W => same_any x y W)
  have C1 := Lib.hid (fun (W : World) => read_no s x W (by omega) hd)
  have C2 := Lib.hid (fun (W : World) => rread_no s x W (by omega) hd)
  have hss : ((0 : Int) == 0) = true := rfl
  clear hd
  go_enter Tryz.func3, Tryz.ntmps3
  go_wp2_with fail
  refine CF.out.mono ?_
  rintro e w0 ⟨rfl, hB⟩
  go_wp2_with fail
  refine (C1.out _).mono ?_
  rintro e w1 ⟨rfl, nb⟩
  have hB := hB.trans (nb.mono hB.size)
  clear nb
  go_wp2_with fail
  refine (C2.out _).mono ?_
  rintro e w2 ⟨rfl, nb⟩
  have hB := hB.trans (nb.mono hB.size)
  clear nb
  go_wp2_with fail
  refine (CS.out _ _ _).mono ?_
  rintro e w' ⟨rfl, rfl⟩
  go_wp2
  go_ret
  exact ⟨rfl, hB⟩
set_option maxRecDepth 100000 in
set_option maxHeartbeats 2000000 in
theorem decReads_long (s : ByteArray) (x : Int) (w : World) (hs : s.size ≤ 9223372036854775807) (hb : s.size ≤ 1100) (hb2 : 1024 < s.size) (hd : isDec s = true) :
    Calls Tryz.prog 3 #[.string s, .int .i64 x] w fun e w' => e = .returned (.bool true) ∧ Below w.heap.size w w' := by
  have CF := Lib.hid (lfixed_any w)
  have CS := Lib.hid (fun x y W => same_any x y W)
  have C1 := Lib.hid (fun (W : World) => read_long s x W (by omega) hb2 hd)
  have C2 := Lib.hid (fun (W : World) => rread_long s x W (by omega) hb2 hd)
  have hss : ((0 : Int) == 0) = true := rfl
  clear hd
  go_enter Tryz.func3, Tryz.ntmps3
  go_wp2_with fail
  refine CF.out.mono ?_
  rintro e w0 ⟨rfl, hB⟩
  go_wp2_with fail
  refine (C1.out _).mono ?_
  rintro e w1 ⟨rfl, nb⟩
  have hB := hB.trans (nb.mono hB.size)
  clear nb
  go_wp2_with fail
  refine (C2.out _).mono ?_
  rintro e w2 ⟨rfl, nb⟩
  have hB := hB.trans (nb.mono hB.size)
  clear nb
  go_wp2_with fail
  refine (CS.out _ _ _).mono ?_
  rintro e w' ⟨rfl, rfl⟩
  go_wp2
  go_ret
  exact ⟨rfl, hB⟩
set_option maxRecDepth 100000 in
set_option maxHeartbeats 2000000 in
theorem decReads_yes (s : ByteArray) (x : Int) (w : World) (hs : s.size ≤ 9223372036854775807) (hb : s.size ≤ 1024) (hd : isDec s = true) :
    Calls Tryz.prog 3 #[.string s, .int .i64 x] w fun e w' => e = .returned (.bool true) ∧ Below w.heap.size w w' := by
  have CF := Lib.hid (lfixed_any w)
  have CS := Lib.hid (fun x y W => same_any x y W)
  have C1 := Lib.hid (fun (W : World) => read_end s _ x W hb hd rfl)
  have C2 := Lib.hid (fun (W : World) => rread_end s x W hb hd)
  clear hd
  go_enter Tryz.func3, Tryz.ntmps3
  go_wp2_with fail
  refine CF.out.mono ?_
  rintro e w0 ⟨rfl, hB⟩
  go_wp2_with fail
  refine (C1.out _).mono ?_
  rintro e w1 ⟨r1, rfl, N1, nb⟩
  have hB := hB.trans (nb.mono hB.size)
  clear nb
  go_wp2_with fail
  refine (C2.out _).mono ?_
  rintro e w2 ⟨r2, rfl, N2, nb⟩
  have hB := hB.trans (nb.mono hB.size)
  clear nb
  obtain rfl : r1 = r2 := N1.out.uniq (Nat.pow_pos (by omega)) (Nat.pow_pos (by omega)) rfl N2.out
  have hss : ((r1 : Int) == (r1 : Int)) = true := beq_self_eq_true _
  go_wp2_with fail
  refine (CS.out _ _ _).mono ?_
  rintro e w' ⟨rfl, rfl⟩
  go_wp2
  go_ret
  exact ⟨rfl, hB⟩
theorem decReads_any (s : ByteArray) (x : Int) (w : World) (hs : s.size ≤ 9223372036854775807) :
    Calls Tryz.prog 3 #[.string s, .int .i64 x] w fun e w' => e = .returned (.bool true) ∧ Below w.heap.size w w' := by
  by_cases h1 : 1100 < s.size
  · exact decReads_big s x w hs h1
  · by_cases hd : isDec s = true
    · by_cases h2 : 1024 < s.size
      · exact decReads_long s x w hs (by omega) h2 hd
      · exact decReads_yes s x w hs (by omega) hd
    · exact decReads_no s x w hs (by omega) (by simpa using hd)
end Go.Proofs.YtkjdmjglpbnmoaaGreatDoor
