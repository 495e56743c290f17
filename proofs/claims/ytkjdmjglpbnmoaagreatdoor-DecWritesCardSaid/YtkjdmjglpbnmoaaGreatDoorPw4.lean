/- Several texts in one (Contracts of layer 3: fractions, timesTwo; Contracts of layer 3: nearest, digits; Contracts of layer 3: digits, ten; Contracts of layer 3: timesTen; Contracts of layer 3: floats by their bits: Abs, IsNaN, IsInf, Parts; Contracts of layer 3: which floats are finite; Parts; Contracts of layer 3: amount; Contracts of layer 3: Fixed; Plain: float64(k) times the constant log10(2), and its floor, for every k that a float has. No walk here; Contracts of layer 4: math.Floor, tensIn; Contracts of layer 3: Sci's short ways out; Contracts of layer 3: timesTen by any power; the binary digits of a fraction). -/
import Derived.Deep.RegionWith
import Derived.Laws.Cover2
import Derived.Laws.Externs
import Derived.Laws.BitsAll
import Derived.WalkSpells
import Derived.Deep.QuietTactic
import Derived.BigQuiet
import Derived.Laws.FloatArith
import Derived.Test.YtkjdmjglpbnmoaaGreatDoorPw3
namespace Go.Proofs.YtkjdmjglpbnmoaaGreatDoor
open Go.RowKit Go.Lib

theorem bitsN_low {xs : List Nat} (hx : Lim B32 xs) (h0 : xs ≠ []) (ht : Top xs) : 2 ^ (bitsN xs - 1) ≤ vl B32 xs ∧ 1 ≤ bitsN xs := by
  obtain ⟨l, y, rfl⟩ := snoc_of_ne h0
  have hll := lim_append.1 hx
  have hy : y < 4294967296 := lim_one.1 hll.2
  have hy0 := top_snoc.1 ht
  have e : Lib.bitLen y = Lib.bitLenAux 32 y := Lib.bitLenAux_fuel 32 y hy 64 (by omega)
  obtain ⟨a, b, c, d⟩ := bitLenAux_bounds 32 y hy hy0
  rw [← e] at a b c d
  have eb : bitsN (l ++ [y]) = 32 * l.length + Lib.bitLen y := by
    rw [bitsN, if_neg h0, List.length_append, List.length_singleton, Nat.add_sub_cancel, List.getD_eq_getElem?_getD, List.getElem?_append_right (Nat.le_refl _), Nat.sub_self]
    show l.length * 32 + Lib.bitLen y = _
    omega
  rw [eb, show 32 * l.length + Lib.bitLen y - 1 = 32 * l.length + (Lib.bitLen y - 1) by omega]
  refine ⟨?_, by omega⟩
  rw [vl_snoc, Nat.pow_add, Nat.pow_mul]
  have h2 : B32 ^ l.length * 2 ^ (Lib.bitLen y - 1) ≤ B32 ^ l.length * y := Nat.mul_le_mul_left _ c
  show (2 ^ 32) ^ l.length * _ ≤ _
  have h3 : (2 ^ 32) ^ l.length = B32 ^ l.length := rfl
  rw [h3]
  omega
theorem pow_below {a b : Nat} (h : 2 ^ a < B32 ^ b) : a < 32 * b := by
  have e : B32 = 2 ^ 32 := by decide
  rw [e, ← Nat.pow_mul] at h
  exact (Nat.pow_lt_pow_iff_right (by omega)).1 h
/-- A shift that has room. -/
theorem shl_fit {N k : Nat} (h : N * 2 ^ k < B32 ^ 256) : shlRes (dig B32 N) (k : Nat) = (dig B32 (N * 2 ^ k), 0) := by
  have hN : N < B32 ^ 256 := by
    have : N * 1 ≤ N * 2 ^ k := Nat.mul_le_mul_left _ (Nat.pow_pos (by omega))
    omega
  rw [shlRes, if_pos (vld_dig hN), if_neg (by omega)]
  by_cases h0 : dig B32 N = []
  · have := dig_nil (by decide) h0
    subst this
    rw [if_pos h0, Nat.zero_mul]
    rfl
  · rw [if_neg h0, if_neg, dig_vl (by decide)]
    · rfl
    · obtain ⟨h1, h2⟩ := bitsN_low (lim_dig N) h0 (dig_norm (by decide) N).2
      rw [dig_vl (by decide)] at h1
      have h3 : 2 ^ (bitsN (dig B32 N) - 1) * 2 ^ k ≤ N * 2 ^ k := Nat.mul_le_mul_right _ h1
      rw [← Nat.pow_add] at h3
      have := pow_below (Nat.lt_of_le_of_lt h3 h)
      omega
/-- A fraction. -/
def Frac (W : World) (v : Value) (N D : Nat) : Prop :=
  ∃ (Ao Au : Option Addr) (co cu : Nat), v = .agg #[.slice Ao (dig B32 N).length co, .slice Au (dig B32 D).length cu] ∧ (Ao = none → co = 0) ∧ (Au = none → cu = 0) ∧ Rd .u32 W Ao (dig B32 N) ∧ Rd .u32 W Au (dig B32 D)
theorem Frac.below {W W' : World} {v : Value} {N D : Nat} (h : Frac W v N D) (hb : Below W.heap.size W W') : Frac W' v N D := by
  obtain ⟨Ao, Au, co, cu, e, h1, h2, h3, h4⟩ := h
  exact ⟨Ao, Au, co, cu, e, h1, h2, h3.below hb, h4.below hb⟩
theorem Rd.far {κ : IntKind} {W : World} {A : Option Addr} {xs : List Nat} (h : Rd κ W A xs) {g j : Nat} (hne : Off A g) (u : Value) : Rd κ (W.setCell ⟨g, j, none⟩ u) A xs := h.kept (grown_set (grown_refl W (some g)) u) hne
theorem off_ge {A : Option Addr} {n g : Nat} (h : ∀ a, A = some a → n ≤ a.block) (hg : g < n) : Off A g := fun a e e2 => by have := h a e; omega
theorem own_ge {κ : IntKind} {w : World} {B n cap : Nat} {t : TypeId} {A : Option Addr} {xs : List Nat} (h : Own κ w B t (.slice A n cap) xs) : ∀ a, A = some a → B ≤ a.block := fun a e => by
  subst e
  exact (World.ownsRow.lt h a.block rfl).1
theorem len_room {N : Nat} (h : N < B32 ^ 256) : (dig B32 N).length ≤ 1000 := Nat.le_trans (len_dig h) (by decide)

set_option maxRecDepth 100000 in
set_option maxHeartbeats 2000000 in
theorem timesTwo_up (N D k : Nat) (v : Value) (w : World) (hk : k ≤ 100000) (hN : N * 2 ^ k < B32 ^ 256) (hf : Frac w v N D) :
    Calls Tryz.prog 20 #[v, .int .i64 k] w fun e w' => (∃ v', e = .returned v' ∧ Frac w' v' (N * 2 ^ k) D) ∧ Below w.heap.size w w' := by
  obtain ⟨Ao, Au, co, cu, rfl, h1, h2, h3, h4⟩ := hf
  have hN0 : N < B32 ^ 256 := by
    have : N * 1 ≤ N * 2 ^ k := Nat.mul_le_mul_left _ (Nat.pow_pos (by omega))
    omega
  have cS := fun (W : World) (h : Rd .u32 W Ao (dig B32 N)) => shl_any Ao co (dig B32 N) (k : Nat) W (lim_dig N) (len_room hN0) (by omega) (by omega) h
  rw [shl_fit hN] at cS
  have CS := Lib.hid cS
  obtain ⟨M, hM⟩ : ∃ M, N * 2 ^ k = M := ⟨_, rfl⟩
  rw [hM] at CS
  rw [hM]
  obtain ⟨n, hn⟩ : ∃ n, (dig B32 N).length = n := ⟨_, rfl⟩
  rw [hn] at CS
  rw [hn]
  have HX := Lib.hid h4
  have hbA := ((Below.refl w.heap.size w).alloc (Nat.le_refl _) (.cells #[.slice Ao n co, .slice Au (dig B32 D).length cu] 48)).alloc (by simp) (.cells #[.slice none 0 0, .slice none 0 0] 48)
  clear cS hN hN0 hM hn
  go_enter Tryz.func20, Tryz.ntmps20
  go_wp2_with fail
  refine (CS.out _ (h3.below hbA)).mono ?_
  rintro e w1 ⟨v1, rfl, hO, hB⟩
  replace hO : Own .u32 w1 _ 74 v1 (dig B32 M) := hO
  obtain ⟨Az, cz, rfl, ez⟩ := hO.slice_
  have hFh : w1.heap[w.heap.size]? = some (.cells #[.slice Ao n co, .slice Au (dig B32 D).length cu] 48 (0, 0)) :=
    (hB.block _ (by simp; omega)).trans ((Below.heap_alloc _ _ _ (by simp)).trans (heap_alloc_new w _))
  have hRh : w1.heap[w.heap.size + 1]? = some (.cells #[.slice none 0 0, .slice none 0 0] 48 (0, 0)) := by
    have h := heap_alloc_new (w.alloc (.cells #[.slice Ao n co, .slice Au (dig B32 D).length cu] 48)) (.cells #[.slice none 0 0, .slice none 0 0] 48)
    rw [World.size_alloc] at h
    exact (hB.block _ (by simp)).trans h
  have f0 := cell_of_row w1 _ 0 _ _ _ hFh
  have f1 := cell_of_row w1 _ 1 _ _ _ hFh
  have r0 := cell_of_row w1 _ 0 _ _ _ hRh
  have r1 := cell_of_row w1 _ 1 _ _ _ hRh
  have z0 := frozen_of_row w1 _ 0 _ _ hFh
  have z1 := frozen_of_row w1 _ 1 _ _ hFh
  have y0 := frozen_of_row w1 _ 0 _ _ hRh
  have y1 := frozen_of_row w1 _ 1 _ _ hRh
  have hge : ∀ a, Az = some a → w.heap.size + 2 ≤ a.block := by
    have h := own_ge hO
    rw [World.size_alloc, World.size_alloc] at h
    exact h
  have hBw := hbA.trans (hB.mono hbA.size)
  have hsz : w.heap.size + 2 ≤ w1.heap.size := by have := hB.size; rw [World.size_alloc, World.size_alloc] at this; omega
  have HO := Lib.hid hO.rd
  have HGE := Lib.hid hge
  simp only [List.getElem?_toArray, List.getElem?_cons_zero, List.getElem?_cons_succ] at f0 f1 r0 r1
  clear hO hB hFh hRh CS hbA h3 h4 hge
  go_wp2
  have hge := HGE.out
  have hBz := ((hBw.setCell (p := ⟨w.heap.size, 0, none⟩) (Nat.le_refl _) (.slice Az (dig B32 M).length cz)).setCell (p := ⟨w.heap.size + 1, 0, none⟩) (Nat.le_succ _) (.slice Az (dig B32 M).length cz)).setCell (p := ⟨w.heap.size + 1, 1, none⟩) (Nat.le_succ _) (.slice Au (dig B32 D).length cu)
  exact bodyPost_ret (v := .agg #[.slice Az (dig B32 M).length cz, .slice Au (dig B32 D).length cu]) (by simp [results, Tryz.results20, go_sem, f0, f1, r0, r1]) rfl ⟨⟨_, rfl, Az, Au, cz, cu, rfl, ez, h2, (((HO.out.far (off_ge hge (by omega)) _).far (off_ge hge (by omega)) _).far (off_ge hge (by omega)) _), HX.out.below hBz⟩, hBz⟩
set_option maxRecDepth 100000 in
set_option maxHeartbeats 2000000 in
theorem timesTwo_down (N D k : Nat) (v : Value) (w : World) (hk0 : 0 < k) (hk : k ≤ 100000) (hN : D * 2 ^ k < B32 ^ 256) (hf : Frac w v N D) :
    Calls Tryz.prog 20 #[v, .int .i64 (-(k : Int))] w fun e w' => (∃ v', e = .returned v' ∧ Frac w' v' N (D * 2 ^ k)) ∧ Below w.heap.size w w' := by
  obtain ⟨Ao, Au, co, cu, rfl, h1, h2, h3, h4⟩ := hf
  have hN0 : D < B32 ^ 256 := by
    have : D * 1 ≤ D * 2 ^ k := Nat.mul_le_mul_left _ (Nat.pow_pos (by omega))
    omega
  have cS := fun (W : World) (h : Rd .u32 W Au (dig B32 D)) => shl_any Au cu (dig B32 D) (k : Nat) W (lim_dig D) (len_room hN0) (by omega) (by omega) h
  rw [shl_fit hN] at cS
  have CS := Lib.hid cS
  obtain ⟨M, hM⟩ : ∃ M, D * 2 ^ k = M := ⟨_, rfl⟩
  rw [hM] at CS
  rw [hM]
  obtain ⟨n, hn⟩ : ∃ n, (dig B32 D).length = n := ⟨_, rfl⟩
  rw [hn] at CS
  rw [hn]
  have HX := Lib.hid h3
  have hkn : ¬ (0 : Int) ≤ -(k : Int) := by omega
  have hkn2 : -(k : Int) < 0 := by omega
  have hkw : IntKind.i64.wrap (-(-(k : Int))) = (k : Int) := by rw [Int.neg_neg]; exact IntWalk.i64_in _ (by omega)
  have hbA := ((Below.refl w.heap.size w).alloc (Nat.le_refl _) (.cells #[.slice Ao (dig B32 N).length co, .slice Au n cu] 48)).alloc (by simp) (.cells #[.slice none 0 0, .slice none 0 0] 48)
  clear cS hN hN0 hM hn
  go_enter Tryz.func20, Tryz.ntmps20
  go_wp2_with fail
  refine (CS.out _ (h4.below hbA)).mono ?_
  rintro e w1 ⟨v1, rfl, hO, hB⟩
  replace hO : Own .u32 w1 _ 74 v1 (dig B32 M) := hO
  obtain ⟨Az, cz, rfl, ez⟩ := hO.slice_
  have hFh : w1.heap[w.heap.size]? = some (.cells #[.slice Ao (dig B32 N).length co, .slice Au n cu] 48 (0, 0)) :=
    (hB.block _ (by simp; omega)).trans ((Below.heap_alloc _ _ _ (by simp)).trans (heap_alloc_new w _))
  have hRh : w1.heap[w.heap.size + 1]? = some (.cells #[.slice none 0 0, .slice none 0 0] 48 (0, 0)) := by
    have h := heap_alloc_new (w.alloc (.cells #[.slice Ao (dig B32 N).length co, .slice Au n cu] 48)) (.cells #[.slice none 0 0, .slice none 0 0] 48)
    rw [World.size_alloc] at h
    exact (hB.block _ (by simp)).trans h
  have f0 := cell_of_row w1 _ 0 _ _ _ hFh
  have f1 := cell_of_row w1 _ 1 _ _ _ hFh
  have r0 := cell_of_row w1 _ 0 _ _ _ hRh
  have r1 := cell_of_row w1 _ 1 _ _ _ hRh
  have z0 := frozen_of_row w1 _ 0 _ _ hFh
  have z1 := frozen_of_row w1 _ 1 _ _ hFh
  have y0 := frozen_of_row w1 _ 0 _ _ hRh
  have y1 := frozen_of_row w1 _ 1 _ _ hRh
  have hge : ∀ a, Az = some a → w.heap.size + 2 ≤ a.block := by
    have h := own_ge hO
    rw [World.size_alloc, World.size_alloc] at h
    exact h
  have hBw := hbA.trans (hB.mono hbA.size)
  have hsz : w.heap.size + 2 ≤ w1.heap.size := by have := hB.size; rw [World.size_alloc, World.size_alloc] at this; omega
  have HO := Lib.hid hO.rd
  have HGE := Lib.hid hge
  simp only [List.getElem?_toArray, List.getElem?_cons_zero, List.getElem?_cons_succ] at f0 f1 r0 r1
  clear hO hB hFh hRh CS hbA h3 h4 hge
  go_wp2
  have hge := HGE.out
  have hBz := ((hBw.setCell (p := ⟨w.heap.size, 1, none⟩) (Nat.le_refl _) (.slice Az (dig B32 M).length cz)).setCell (p := ⟨w.heap.size + 1, 0, none⟩) (Nat.le_succ _) (.slice Ao (dig B32 N).length co)).setCell (p := ⟨w.heap.size + 1, 1, none⟩) (Nat.le_succ _) (.slice Az (dig B32 M).length cz)
  exact bodyPost_ret (v := .agg #[.slice Ao (dig B32 N).length co, .slice Az (dig B32 M).length cz]) (by simp [results, Tryz.results20, go_sem, f0, f1, r0, r1]) rfl ⟨⟨_, rfl, Ao, Az, co, cz, rfl, h1, ez, HX.out.below hBz, (((HO.out.far (off_ge hge (by omega)) _).far (off_ge hge (by omega)) _).far (off_ge hge (by omega)) _)⟩, hBz⟩
end Go.Proofs.YtkjdmjglpbnmoaaGreatDoor

namespace Go.Proofs.YtkjdmjglpbnmoaaGreatDoor
open Go.RowKit Go.Lib

/-- The natural nearest to a fraction; of two, the even one. -/
def rnd (N D : Nat) : Nat := if D < 2 * (N % D) ∨ (2 * (N % D) = D ∧ N / D % 2 = 1) then N / D + 1 else N / D
theorem rnd_le (N D : Nat) : rnd N D ≤ N / D + 1 := by unfold rnd; split <;> omega
theorem odd_low {n : Nat} : low64 (dig B32 n) % 2 = n % 2 := by
  rw [low64_mod (lim_dig n), dig_vl (by decide)]
  omega
set_option maxRecDepth 100000 in
set_option maxHeartbeats 2000000 in
theorem nearest_lt (N D : Nat) (v : Value) (w : World) (hN : N < B32 ^ 255) (hD : D < B32 ^ 255) (hD0 : 0 < D) (h : 2 * (N % D) < D) (hf : Frac w v N D) :
    Calls Tryz.prog 21 #[v] w (Makes .u32 74 w (dig B32 (N / D))) := by
  obtain ⟨Ao, Au, co, cu, rfl, h1, h2, h3, h4⟩ := hf
  have hpow : B32 ^ 255 * 2 ≤ B32 ^ 256 := by rw [Nat.pow_succ]; exact Nat.mul_le_mul_left _ (by decide)
  have hN2 : N < B32 ^ 256 := by omega
  have hD2 : D < B32 ^ 256 := by omega
  have hq1 : N / D ≤ N := Nat.div_le_self N D
  have hr1 : N % D < D := Nat.mod_lt N hD0
  have hd0 : dig B32 D ≠ [] := fun e => by have := dig_nil (by decide) e; omega
  have cD := fun (W : World) (a : Rd .u32 W Ao (dig B32 N)) (b : Rd .u32 W Au (dig B32 D)) => div_any Ao Au co cu (dig B32 N) (dig B32 D) W (lim_dig N) (lim_dig D) (len_room hN2) (len_room hD2) h1 a b
  have hdr : divRes (dig B32 N) (dig B32 D) = (dig B32 (N / D), dig B32 (N % D), 0) := by
    rw [divRes, if_pos ⟨vld_dig hN2, vld_dig hD2⟩, if_neg hd0, dig_vl (by decide), dig_vl (by decide)]
  rw [hdr] at cD
  obtain ⟨q, hqe⟩ : ∃ q, N / D = q := ⟨_, rfl⟩
  obtain ⟨r, hre⟩ : ∃ r, N % D = r := ⟨_, rfl⟩
  rw [hqe, hre] at cD
  rw [hqe] at hq1
  rw [hre] at hr1
  rw [hre] at h
  rw [hqe]
  have cS := fun (A1 : Option Addr) (c1 : Nat) (W : World) (a : Rd .u32 W A1 (dig B32 r)) => shl_any A1 c1 (dig B32 r) ((1 : Nat) : Int) W (lim_dig r) (len_room (by omega)) (by omega) (by omega) a
  rw [shl_fit (by rw [Nat.pow_one]; omega), Nat.pow_one] at cS
  obtain ⟨t, ht⟩ : ∃ t, r * 2 = t := ⟨_, rfl⟩
  have ht2 : t < B32 ^ 256 := by omega
  rw [ht] at cS
  have cC := fun (A1 : Option Addr) (c1 : Nat) (W : World) (a : Rd .u32 W A1 (dig B32 t)) (b : Rd .u32 W Au (dig B32 D)) => cmp_any A1 Au c1 cu (dig B32 t) (dig B32 D) W (dig_norm (by decide) t) (dig_norm (by decide) D) (Nat.le_trans (len_dig ht2) (by decide)) (Nat.le_trans (len_dig hD2) (by decide)) a b
  rw [dig_vl (by decide), dig_vl (by decide), cmpZ_lt (by omega)] at cC
  have cD' := Lib.hid cD
  have cS' := Lib.hid cS
  have cC' := Lib.hid cC
  have hbA := (Below.refl w.heap.size w).alloc (Nat.le_refl _) (.cells #[.slice Ao (dig B32 N).length co, .slice Au (dig B32 D).length cu] 48)
  have hFh := heap_alloc_new w (.cells #[.slice Ao (dig B32 N).length co, .slice Au (dig B32 D).length cu] 48)
  have hlt : w.heap.size < (w.alloc (.cells #[.slice Ao (dig B32 N).length co, .slice Au (dig B32 D).length cu] 48)).heap.size := by simp
  have f0 := cell_of_row _ _ 0 _ _ _ hFh
  have f1 := cell_of_row _ _ 1 _ _ _ hFh
  simp only [List.getElem?_toArray, List.getElem?_cons_zero, List.getElem?_cons_succ] at f0 f1
  clear cD cS cC hpow hN2 hD2 hq1 hr1 hd0 hdr hqe hre h ht ht2 hN hD hD0 hFh
  go_enter Tryz.func21, Tryz.ntmps21
  go_wp2_with fail
  refine (cD'.out _ (h3.below hbA) (h4.below hbA)).mono ?_
  rintro e w1 ⟨v1, v2, rfl, o1, o2, _, hn⟩
  replace o1 : Own .u32 w1 _ 74 v1 (dig B32 q) := o1
  replace o2 : Own .u32 w1 _ 74 v2 (dig B32 r) := o2
  obtain ⟨Aq, cq, rfl, hcq1, hcq2⟩ := o1.slice
  obtain ⟨Ar, cr, rfl, _⟩ := o2.slice_
  have f1 := (hn.cell (p := ⟨w.heap.size, 1, none⟩) hlt).trans f1
  have hF : w.heap.size < w1.heap.size := Nat.lt_of_lt_of_le hlt hn.size
  have hQ := o1.mono hbA.size
  have Qr := Lib.hid o2.rd
  have hB := hbA.trans (hn.mono hbA.size)
  clear f0 hlt hn o1 o2 hbA
  go_wp2_with fail
  refine (cS'.out _ _ _ Qr.out).mono ?_
  rintro e w2 ⟨v3, rfl, o3, hn⟩
  replace o3 : Own .u32 w2 _ 74 v3 (dig B32 t) := o3
  obtain ⟨At, ct, rfl, _⟩ := o3.slice_
  have f1 := (hn.cell (p := ⟨w.heap.size, 1, none⟩) hF).trans f1
  have hF := Nat.lt_of_lt_of_le hF hn.size
  have hQ := hQ.below hn
  have Qt := Lib.hid o3.rd
  have hB := hB.trans (hn.mono hB.size)
  clear hn o3 Qr
  go_wp2_with fail
  refine (cC'.out _ _ _ Qt.out (h4.below hB)).mono ?_
  rintro e w3 ⟨rfl, nd, hm⟩
  have hn : Below w2.heap.size w2 w3 := by rw [hm]; exact below_drewN' (Below.refl _ _) nd
  have hQ := hQ.below hn
  have hB := hB.trans (hn.mono hB.size)
  have HQ := Lib.hid hQ
  clear hn hm Qt f1 hF hQ
  go_wp2
  go_ret
  exact ⟨_, rfl, HQ.out, hB⟩
set_option maxRecDepth 100000 in
set_option maxHeartbeats 2000000 in
theorem nearest_gt (N D : Nat) (v : Value) (w : World) (hN : N < B32 ^ 255) (hD : D < B32 ^ 255) (hD0 : 0 < D) (h : D < 2 * (N % D)) (hf : Frac w v N D) :
    Calls Tryz.prog 21 #[v] w (Makes .u32 74 w (dig B32 (N / D + 1))) := by
  obtain ⟨Ao, Au, co, cu, rfl, h1, h2, h3, h4⟩ := hf
  have hpow : B32 ^ 255 * 2 ≤ B32 ^ 256 := by rw [Nat.pow_succ]; exact Nat.mul_le_mul_left _ (by decide)
  have hN2 : N < B32 ^ 256 := by omega
  have hD2 : D < B32 ^ 256 := by omega
  have hq1 : N / D ≤ N := Nat.div_le_self N D
  have hr1 : N % D < D := Nat.mod_lt N hD0
  have hd0 : dig B32 D ≠ [] := fun e => by have := dig_nil (by decide) e; omega
  have cD := fun (W : World) (a : Rd .u32 W Ao (dig B32 N)) (b : Rd .u32 W Au (dig B32 D)) => div_any Ao Au co cu (dig B32 N) (dig B32 D) W (lim_dig N) (lim_dig D) (len_room hN2) (len_room hD2) h1 a b
  have hdr : divRes (dig B32 N) (dig B32 D) = (dig B32 (N / D), dig B32 (N % D), 0) := by
    rw [divRes, if_pos ⟨vld_dig hN2, vld_dig hD2⟩, if_neg hd0, dig_vl (by decide), dig_vl (by decide)]
  rw [hdr] at cD
  obtain ⟨q, hqe⟩ : ∃ q, N / D = q := ⟨_, rfl⟩
  obtain ⟨r, hre⟩ : ∃ r, N % D = r := ⟨_, rfl⟩
  rw [hqe, hre] at cD
  rw [hqe] at hq1
  rw [hre] at hr1
  rw [hre] at h
  rw [hqe]
  have cS := fun (A1 : Option Addr) (c1 : Nat) (W : World) (a : Rd .u32 W A1 (dig B32 r)) => shl_any A1 c1 (dig B32 r) ((1 : Nat) : Int) W (lim_dig r) (len_room (by omega)) (by omega) (by omega) a
  rw [shl_fit (by rw [Nat.pow_one]; omega), Nat.pow_one] at cS
  obtain ⟨t, ht⟩ : ∃ t, r * 2 = t := ⟨_, rfl⟩
  have ht2 : t < B32 ^ 256 := by omega
  rw [ht] at cS
  have cC := fun (A1 : Option Addr) (c1 : Nat) (W : World) (a : Rd .u32 W A1 (dig B32 t)) (b : Rd .u32 W Au (dig B32 D)) => cmp_any A1 Au c1 cu (dig B32 t) (dig B32 D) W (dig_norm (by decide) t) (dig_norm (by decide) D) (Nat.le_trans (len_dig ht2) (by decide)) (Nat.le_trans (len_dig hD2) (by decide)) a b
  rw [dig_vl (by decide), dig_vl (by decide), cmpZ_gt (by omega)] at cC
  have cF := fun (W : World) => from_small 1 W (by omega)
  have cA := fun (A1 A2 : Option Addr) (c1 c2 : Nat) (W : World) (a : Rd .u32 W A1 (dig B32 q)) (b : Rd .u32 W A2 (dig B32 1)) => add_any A1 A2 c1 c2 (dig B32 q) (dig B32 1) W (lim_dig q) (lim_dig 1) (len_room (by omega)) (len_room (by omega)) a b
  have har : res2 (dig B32 q) (dig B32 1) (vl B32 (dig B32 q) + vl B32 (dig B32 1)) = (dig B32 (q + 1), 0) := by
    rw [dig_vl (by decide), dig_vl (by decide)]
    exact res2_ok (vld_dig (by omega)) (vld_dig (by omega)) (by omega)
  rw [har] at cA
  have cD' := Lib.hid cD
  have cS' := Lib.hid cS
  have cC' := Lib.hid cC
  have cF' := Lib.hid cF
  have cA' := Lib.hid cA
  have hbA := (Below.refl w.heap.size w).alloc (Nat.le_refl _) (.cells #[.slice Ao (dig B32 N).length co, .slice Au (dig B32 D).length cu] 48)
  have hFh := heap_alloc_new w (.cells #[.slice Ao (dig B32 N).length co, .slice Au (dig B32 D).length cu] 48)
  have hlt : w.heap.size < (w.alloc (.cells #[.slice Ao (dig B32 N).length co, .slice Au (dig B32 D).length cu] 48)).heap.size := by simp
  have f0 := cell_of_row _ _ 0 _ _ _ hFh
  have f1 := cell_of_row _ _ 1 _ _ _ hFh
  simp only [List.getElem?_toArray, List.getElem?_cons_zero, List.getElem?_cons_succ] at f0 f1
  clear cD cS cC cF cA hpow hN2 hD2 hq1 hr1 hd0 hdr hqe hre h ht ht2 hN hD hD0 hFh har
  go_enter Tryz.func21, Tryz.ntmps21
  go_wp2_with fail
  refine (cD'.out _ (h3.below hbA) (h4.below hbA)).mono ?_
  rintro e w1 ⟨v1, v2, rfl, o1, o2, _, hn⟩
  replace o1 : Own .u32 w1 _ 74 v1 (dig B32 q) := o1
  replace o2 : Own .u32 w1 _ 74 v2 (dig B32 r) := o2
  obtain ⟨Aq, cq, rfl, hcq1, hcq2⟩ := o1.slice
  obtain ⟨Ar, cr, rfl, _⟩ := o2.slice_
  have f1 := (hn.cell (p := ⟨w.heap.size, 1, none⟩) hlt).trans f1
  have hF : w.heap.size < w1.heap.size := Nat.lt_of_lt_of_le hlt hn.size
  have hQ := o1.mono hbA.size
  have Qr := Lib.hid o2.rd
  have hB := hbA.trans (hn.mono hbA.size)
  clear f0 hlt hn o1 o2 hbA
  go_wp2_with fail
  refine (cS'.out _ _ _ Qr.out).mono ?_
  rintro e w2 ⟨v3, rfl, o3, hn⟩
  replace o3 : Own .u32 w2 _ 74 v3 (dig B32 t) := o3
  obtain ⟨At, ct, rfl, _⟩ := o3.slice_
  have f1 := (hn.cell (p := ⟨w.heap.size, 1, none⟩) hF).trans f1
  have hF := Nat.lt_of_lt_of_le hF hn.size
  have hQ := hQ.below hn
  have Qt := Lib.hid o3.rd
  have hB := hB.trans (hn.mono hB.size)
  clear hn o3 Qr
  go_wp2_with fail
  refine (cC'.out _ _ _ Qt.out (h4.below hB)).mono ?_
  rintro e w3 ⟨rfl, nd, hm⟩
  have hn : Below w2.heap.size w2 w3 := by rw [hm]; exact below_drewN' (Below.refl _ _) nd
  have hQ := hQ.below hn
  have hB := hB.trans (hn.mono hB.size)
  have HQ := Lib.hid hQ
  clear hn hm Qt f1 hF hQ
  go_wp2_with fail
  refine (cF'.out _).mono ?_
  rintro e w4 ⟨v4, rfl, o4, hn⟩
  obtain ⟨A4, c4, rfl, _⟩ := o4.slice_
  have HQ := Lib.hid (HQ.out.below hn)
  have Q4 := Lib.hid o4.rd
  have hB := hB.trans (hn.mono hB.size)
  clear hn o4
  go_wp2_with fail
  refine (cA'.out _ _ _ _ _ HQ.out.rd Q4.out).mono ?_
  rintro e w5 ⟨v5, rfl, o5, hn⟩
  replace o5 : Own .u32 w5 w4.heap.size 74 v5 (dig B32 (q + 1)) := o5
  have HO := Lib.hid (o5.mono hB.size)
  have hB := hB.trans (hn.mono hB.size)
  clear hn o5 Q4 HQ
  go_wp2
  go_ret
  exact ⟨_, rfl, HO.out, hB⟩
set_option maxRecDepth 100000 in
set_option maxHeartbeats 2000000 in
theorem nearest_even (N D : Nat) (v : Value) (w : World) (hN : N < B32 ^ 255) (hD : D < B32 ^ 255) (hD0 : 0 < D) (h : 2 * (N % D) = D) (hq : N / D % 2 = 0) (hf : Frac w v N D) :
    Calls Tryz.prog 21 #[v] w (Makes .u32 74 w (dig B32 (N / D))) := by
  obtain ⟨Ao, Au, co, cu, rfl, h1, h2, h3, h4⟩ := hf
  have hpow : B32 ^ 255 * 2 ≤ B32 ^ 256 := by rw [Nat.pow_succ]; exact Nat.mul_le_mul_left _ (by decide)
  have hN2 : N < B32 ^ 256 := by omega
  have hD2 : D < B32 ^ 256 := by omega
  have hq1 : N / D ≤ N := Nat.div_le_self N D
  have hr1 : N % D < D := Nat.mod_lt N hD0
  have hd0 : dig B32 D ≠ [] := fun e => by have := dig_nil (by decide) e; omega
  have cD := fun (W : World) (a : Rd .u32 W Ao (dig B32 N)) (b : Rd .u32 W Au (dig B32 D)) => div_any Ao Au co cu (dig B32 N) (dig B32 D) W (lim_dig N) (lim_dig D) (len_room hN2) (len_room hD2) h1 a b
  have hdr : divRes (dig B32 N) (dig B32 D) = (dig B32 (N / D), dig B32 (N % D), 0) := by
    rw [divRes, if_pos ⟨vld_dig hN2, vld_dig hD2⟩, if_neg hd0, dig_vl (by decide), dig_vl (by decide)]
  rw [hdr] at cD
  obtain ⟨q, hqe⟩ : ∃ q, N / D = q := ⟨_, rfl⟩
  obtain ⟨r, hre⟩ : ∃ r, N % D = r := ⟨_, rfl⟩
  rw [hqe, hre] at cD
  rw [hqe] at hq1
  rw [hre] at hr1
  rw [hre] at h
  rw [hqe] at hq
  rw [hqe]
  have cS := fun (A1 : Option Addr) (c1 : Nat) (W : World) (a : Rd .u32 W A1 (dig B32 r)) => shl_any A1 c1 (dig B32 r) ((1 : Nat) : Int) W (lim_dig r) (len_room (by omega)) (by omega) (by omega) a
  rw [shl_fit (by rw [Nat.pow_one]; omega), Nat.pow_one] at cS
  obtain ⟨t, ht⟩ : ∃ t, r * 2 = t := ⟨_, rfl⟩
  have ht2 : t < B32 ^ 256 := by omega
  rw [ht] at cS
  have cC := fun (A1 : Option Addr) (c1 : Nat) (W : World) (a : Rd .u32 W A1 (dig B32 t)) (b : Rd .u32 W Au (dig B32 D)) => cmp_any A1 Au c1 cu (dig B32 t) (dig B32 D) W (dig_norm (by decide) t) (dig_norm (by decide) D) (Nat.le_trans (len_dig ht2) (by decide)) (Nat.le_trans (len_dig hD2) (by decide)) a b
  rw [dig_vl (by decide), dig_vl (by decide), cmpZ_eq (by omega)] at cC
  have cW := fun (A1 : Option Addr) (c1 : Nat) (W : World) (hc1 : (dig B32 q).length ≤ c1) (hc2 : c1 ≤ maxLen) (a : Rd .u32 W A1 (dig B32 q)) => word_any A1 c1 (dig B32 q) W (lim_dig q) (len_room (by omega)) hc1 hc2 a
  have hod : low64 (dig B32 q) % 2 = 0 := by rw [odd_low]; exact hq
  obtain ⟨l, hl⟩ : ∃ l, low64 (dig B32 q) = l := ⟨_, rfl⟩
  rw [hl] at cW hod
  have cD' := Lib.hid cD
  have cS' := Lib.hid cS
  have cC' := Lib.hid cC
  have cW' := Lib.hid cW
  have hbA := (Below.refl w.heap.size w).alloc (Nat.le_refl _) (.cells #[.slice Ao (dig B32 N).length co, .slice Au (dig B32 D).length cu] 48)
  have hFh := heap_alloc_new w (.cells #[.slice Ao (dig B32 N).length co, .slice Au (dig B32 D).length cu] 48)
  have hlt : w.heap.size < (w.alloc (.cells #[.slice Ao (dig B32 N).length co, .slice Au (dig B32 D).length cu] 48)).heap.size := by simp
  have f0 := cell_of_row _ _ 0 _ _ _ hFh
  have f1 := cell_of_row _ _ 1 _ _ _ hFh
  simp only [List.getElem?_toArray, List.getElem?_cons_zero, List.getElem?_cons_succ] at f0 f1
  clear cD cS cC cW hpow hN2 hD2 hq1 hr1 hd0 hdr hqe hre h ht ht2 hN hD hD0 hFh hl hq
  go_enter Tryz.func21, Tryz.ntmps21
  go_wp2_with fail
  refine (cD'.out _ (h3.below hbA) (h4.below hbA)).mono ?_
  rintro e w1 ⟨v1, v2, rfl, o1, o2, _, hn⟩
  replace o1 : Own .u32 w1 _ 74 v1 (dig B32 q) := o1
  replace o2 : Own .u32 w1 _ 74 v2 (dig B32 r) := o2
  obtain ⟨Aq, cq, rfl, hcq1, hcq2⟩ := o1.slice
  obtain ⟨Ar, cr, rfl, _⟩ := o2.slice_
  have f1 := (hn.cell (p := ⟨w.heap.size, 1, none⟩) hlt).trans f1
  have hF : w.heap.size < w1.heap.size := Nat.lt_of_lt_of_le hlt hn.size
  have hQ := o1.mono hbA.size
  have Qr := Lib.hid o2.rd
  have hB := hbA.trans (hn.mono hbA.size)
  clear f0 hlt hn o1 o2 hbA
  go_wp2_with fail
  refine (cS'.out _ _ _ Qr.out).mono ?_
  rintro e w2 ⟨v3, rfl, o3, hn⟩
  replace o3 : Own .u32 w2 _ 74 v3 (dig B32 t) := o3
  obtain ⟨At, ct, rfl, _⟩ := o3.slice_
  have f1 := (hn.cell (p := ⟨w.heap.size, 1, none⟩) hF).trans f1
  have hF := Nat.lt_of_lt_of_le hF hn.size
  have hQ := hQ.below hn
  have Qt := Lib.hid o3.rd
  have hB := hB.trans (hn.mono hB.size)
  clear hn o3 Qr
  go_wp2_with fail
  refine (cC'.out _ _ _ Qt.out (h4.below hB)).mono ?_
  rintro e w3 ⟨rfl, nd, hm⟩
  have hn : Below w2.heap.size w2 w3 := by rw [hm]; exact below_drewN' (Below.refl _ _) nd
  have hQ := hQ.below hn
  have hB := hB.trans (hn.mono hB.size)
  have HQ := Lib.hid hQ
  clear hn hm Qt f1 hF hQ
  go_wp2_with fail
  refine (cW'.out _ _ _ hcq1 hcq2 HQ.out.rd).mono ?_
  rintro e w' ⟨rfl, rfl⟩
  go_wp2
  go_ret
  exact ⟨_, rfl, HQ.out, hB⟩
set_option maxRecDepth 100000 in
set_option maxHeartbeats 2000000 in
theorem nearest_odd (N D : Nat) (v : Value) (w : World) (hN : N < B32 ^ 255) (hD : D < B32 ^ 255) (hD0 : 0 < D) (h : 2 * (N % D) = D) (hq : N / D % 2 = 1) (hf : Frac w v N D) :
    Calls Tryz.prog 21 #[v] w (Makes .u32 74 w (dig B32 (N / D + 1))) := by
  obtain ⟨Ao, Au, co, cu, rfl, h1, h2, h3, h4⟩ := hf
  have hpow : B32 ^ 255 * 2 ≤ B32 ^ 256 := by rw [Nat.pow_succ]; exact Nat.mul_le_mul_left _ (by decide)
  have hN2 : N < B32 ^ 256 := by omega
  have hD2 : D < B32 ^ 256 := by omega
  have hq1 : N / D ≤ N := Nat.div_le_self N D
  have hr1 : N % D < D := Nat.mod_lt N hD0
  have hd0 : dig B32 D ≠ [] := fun e => by have := dig_nil (by decide) e; omega
  have cD := fun (W : World) (a : Rd .u32 W Ao (dig B32 N)) (b : Rd .u32 W Au (dig B32 D)) => div_any Ao Au co cu (dig B32 N) (dig B32 D) W (lim_dig N) (lim_dig D) (len_room hN2) (len_room hD2) h1 a b
  have hdr : divRes (dig B32 N) (dig B32 D) = (dig B32 (N / D), dig B32 (N % D), 0) := by
    rw [divRes, if_pos ⟨vld_dig hN2, vld_dig hD2⟩, if_neg hd0, dig_vl (by decide), dig_vl (by decide)]
  rw [hdr] at cD
  obtain ⟨q, hqe⟩ : ∃ q, N / D = q := ⟨_, rfl⟩
  obtain ⟨r, hre⟩ : ∃ r, N % D = r := ⟨_, rfl⟩
  rw [hqe, hre] at cD
  rw [hqe] at hq1
  rw [hre] at hr1
  rw [hre] at h
  rw [hqe] at hq
  rw [hqe]
  have cS := fun (A1 : Option Addr) (c1 : Nat) (W : World) (a : Rd .u32 W A1 (dig B32 r)) => shl_any A1 c1 (dig B32 r) ((1 : Nat) : Int) W (lim_dig r) (len_room (by omega)) (by omega) (by omega) a
  rw [shl_fit (by rw [Nat.pow_one]; omega), Nat.pow_one] at cS
  obtain ⟨t, ht⟩ : ∃ t, r * 2 = t := ⟨_, rfl⟩
  have ht2 : t < B32 ^ 256 := by omega
  rw [ht] at cS
  have cC := fun (A1 : Option Addr) (c1 : Nat) (W : World) (a : Rd .u32 W A1 (dig B32 t)) (b : Rd .u32 W Au (dig B32 D)) => cmp_any A1 Au c1 cu (dig B32 t) (dig B32 D) W (dig_norm (by decide) t) (dig_norm (by decide) D) (Nat.le_trans (len_dig ht2) (by decide)) (Nat.le_trans (len_dig hD2) (by decide)) a b
  rw [dig_vl (by decide), dig_vl (by decide), cmpZ_eq (by omega)] at cC
  have cW := fun (A1 : Option Addr) (c1 : Nat) (W : World) (hc1 : (dig B32 q).length ≤ c1) (hc2 : c1 ≤ maxLen) (a : Rd .u32 W A1 (dig B32 q)) => word_any A1 c1 (dig B32 q) W (lim_dig q) (len_room (by omega)) hc1 hc2 a
  have hod : low64 (dig B32 q) % 2 = 1 := by rw [odd_low]; exact hq
  obtain ⟨l, hl⟩ : ∃ l, low64 (dig B32 q) = l := ⟨_, rfl⟩
  rw [hl] at cW hod
  have cF := fun (W : World) => from_small 1 W (by omega)
  have cA := fun (A1 A2 : Option Addr) (c1 c2 : Nat) (W : World) (a : Rd .u32 W A1 (dig B32 q)) (b : Rd .u32 W A2 (dig B32 1)) => add_any A1 A2 c1 c2 (dig B32 q) (dig B32 1) W (lim_dig q) (lim_dig 1) (len_room (by omega)) (len_room (by omega)) a b
  have har : res2 (dig B32 q) (dig B32 1) (vl B32 (dig B32 q) + vl B32 (dig B32 1)) = (dig B32 (q + 1), 0) := by
    rw [dig_vl (by decide), dig_vl (by decide)]
    exact res2_ok (vld_dig (by omega)) (vld_dig (by omega)) (by omega)
  rw [har] at cA
  have cD' := Lib.hid cD
  have cS' := Lib.hid cS
  have cC' := Lib.hid cC
  have cW' := Lib.hid cW
  have cF' := Lib.hid cF
  have cA' := Lib.hid cA
  have hbA := (Below.refl w.heap.size w).alloc (Nat.le_refl _) (.cells #[.slice Ao (dig B32 N).length co, .slice Au (dig B32 D).length cu] 48)
  have hFh := heap_alloc_new w (.cells #[.slice Ao (dig B32 N).length co, .slice Au (dig B32 D).length cu] 48)
  have hlt : w.heap.size < (w.alloc (.cells #[.slice Ao (dig B32 N).length co, .slice Au (dig B32 D).length cu] 48)).heap.size := by simp
  have f0 := cell_of_row _ _ 0 _ _ _ hFh
  have f1 := cell_of_row _ _ 1 _ _ _ hFh
  simp only [List.getElem?_toArray, List.getElem?_cons_zero, List.getElem?_cons_succ] at f0 f1
  clear cD cS cC cW cF cA hpow hN2 hD2 hq1 hr1 hd0 hdr hqe hre h ht ht2 hN hD hD0 hFh hl hq har
  go_enter Tryz.func21, Tryz.ntmps21
  go_wp2_with fail
  refine (cD'.out _ (h3.below hbA) (h4.below hbA)).mono ?_
  rintro e w1 ⟨v1, v2, rfl, o1, o2, _, hn⟩
  replace o1 : Own .u32 w1 _ 74 v1 (dig B32 q) := o1
  replace o2 : Own .u32 w1 _ 74 v2 (dig B32 r) := o2
  obtain ⟨Aq, cq, rfl, hcq1, hcq2⟩ := o1.slice
  obtain ⟨Ar, cr, rfl, _⟩ := o2.slice_
  have f1 := (hn.cell (p := ⟨w.heap.size, 1, none⟩) hlt).trans f1
  have hF : w.heap.size < w1.heap.size := Nat.lt_of_lt_of_le hlt hn.size
  have hQ := o1.mono hbA.size
  have Qr := Lib.hid o2.rd
  have hB := hbA.trans (hn.mono hbA.size)
  clear f0 hlt hn o1 o2 hbA
  go_wp2_with fail
  refine (cS'.out _ _ _ Qr.out).mono ?_
  rintro e w2 ⟨v3, rfl, o3, hn⟩
  replace o3 : Own .u32 w2 _ 74 v3 (dig B32 t) := o3
  obtain ⟨At, ct, rfl, _⟩ := o3.slice_
  have f1 := (hn.cell (p := ⟨w.heap.size, 1, none⟩) hF).trans f1
  have hF := Nat.lt_of_lt_of_le hF hn.size
  have hQ := hQ.below hn
  have Qt := Lib.hid o3.rd
  have hB := hB.trans (hn.mono hB.size)
  clear hn o3 Qr
  go_wp2_with fail
  refine (cC'.out _ _ _ Qt.out (h4.below hB)).mono ?_
  rintro e w3 ⟨rfl, nd, hm⟩
  have hn : Below w2.heap.size w2 w3 := by rw [hm]; exact below_drewN' (Below.refl _ _) nd
  have hQ := hQ.below hn
  have hB := hB.trans (hn.mono hB.size)
  have HQ := Lib.hid hQ
  clear hn hm Qt f1 hF hQ
  go_wp2_with fail
  refine (cW'.out _ _ _ hcq1 hcq2 HQ.out.rd).mono ?_
  rintro e w' ⟨rfl, rfl⟩
  go_wp2_with fail
  refine (cF'.out _).mono ?_
  rintro e w4 ⟨v4, rfl, o4, hn⟩
  obtain ⟨A4, c4, rfl, _⟩ := o4.slice_
  have HQ := Lib.hid (HQ.out.below hn)
  have Q4 := Lib.hid o4.rd
  have hB := hB.trans (hn.mono hB.size)
  clear hn o4
  go_wp2_with fail
  refine (cA'.out _ _ _ _ _ HQ.out.rd Q4.out).mono ?_
  rintro e w5 ⟨v5, rfl, o5, hn⟩
  replace o5 : Own .u32 w5 w4.heap.size 74 v5 (dig B32 (q + 1)) := o5
  have HO := Lib.hid (o5.mono hB.size)
  have hB := hB.trans (hn.mono hB.size)
  clear hn o5 Q4 HQ
  go_wp2
  go_ret
  exact ⟨_, rfl, HO.out, hB⟩
theorem nearest_any (N D : Nat) (v : Value) (w : World) (hN : N < B32 ^ 255) (hD : D < B32 ^ 255) (hD0 : 0 < D) (hf : Frac w v N D) :
    Calls Tryz.prog 21 #[v] w (Makes .u32 74 w (dig B32 (rnd N D))) := by
  unfold rnd
  rcases Nat.lt_trichotomy (2 * (N % D)) D with h | h | h
  · rw [if_neg (by omega)]; exact nearest_lt N D v w hN hD hD0 h hf
  · rcases Nat.mod_two_eq_zero_or_one (N / D) with hq | hq
    · rw [if_neg (by omega)]; exact nearest_even N D v w hN hD hD0 h hq hf
    · rw [if_pos (.inr ⟨h, hq⟩)]; exact nearest_odd N D v w hN hD hD0 h hq hf
  · rw [if_pos (.inl h)]; exact nearest_gt N D v w hN hD hD0 h hf
end Go.Proofs.YtkjdmjglpbnmoaaGreatDoor

namespace Go.Proofs.YtkjdmjglpbnmoaaGreatDoor
open Go.RowKit Go.Lib

set_option maxRecDepth 100000 in
set_option maxHeartbeats 1000000 in
theorem digits_any (N D : Nat) (v : Value) (w : World) (hN : N < B32 ^ 255) (hD : D < B32 ^ 255) (hD0 : 0 < D) (hf : Frac w v N D) :
    Calls Tryz.prog 29 #[v] w fun e w' => e = .returned (.string ⟨(decs (rnd N D)).toArray⟩) ∧ Below w.heap.size w w' := by
  have hr : rnd N D < B32 ^ 256 := by
    have h1 := rnd_le N D
    have h2 := Nat.div_le_self N D
    have hpow : B32 ^ 255 * 2 ≤ B32 ^ 256 := by rw [Nat.pow_succ]; exact Nat.mul_le_mul_left _ (by decide)
    omega
  have CN := Lib.hid (fun (W : World) (h : Frac W v N D) => nearest_any N D v W hN hD hD0 h)
  have cT := fun (A : Option Addr) (c : Nat) (W : World) (hA : A = none → c = 0) (h : Rd .u32 W A (dig B32 (rnd N D))) => text_any A c (dig B32 (rnd N D)) W (lim_dig _) (len_room hr) hA h
  have htr : textRes (dig B32 (rnd N D)) = (decs (rnd N D), 0) := by rw [textRes, if_pos (vld_dig hr), dig_vl (by decide)]
  rw [htr] at cT
  have CT := Lib.hid cT
  obtain ⟨Ao, Au, co, cu, rfl, h1, h2, h3, h4⟩ := hf
  have hbA := (Below.refl w.heap.size w).alloc (Nat.le_refl _) (.cells #[.slice Ao (dig B32 N).length co, .slice Au (dig B32 D).length cu] 48)
  have hFh := heap_alloc_new w (.cells #[.slice Ao (dig B32 N).length co, .slice Au (dig B32 D).length cu] 48)
  have HF := Lib.hid (show Frac (w.alloc (.cells #[.slice Ao (dig B32 N).length co, .slice Au (dig B32 D).length cu] 48)) (.agg #[.slice Ao (dig B32 N).length co, .slice Au (dig B32 D).length cu]) N D from ⟨Ao, Au, co, cu, rfl, h1, h2, h3.below hbA, h4.below hbA⟩)
  have f0 := cell_of_row _ _ 0 _ _ _ hFh
  have f1 := cell_of_row _ _ 1 _ _ _ hFh
  simp only [List.getElem?_toArray, List.getElem?_cons_zero, List.getElem?_cons_succ] at f0 f1
  clear cT htr hr hN hD hD0 h1 h2 h3 h4 hFh
  go_enter Tryz.func29, Tryz.ntmps29
  go_wp2_with fail
  refine (CN.out _ HF.out).mono ?_
  rintro e w1 ⟨v1, rfl, hO, hn⟩
  obtain ⟨A1, c1, rfl, e1⟩ := hO.slice_
  have Q := Lib.hid hO.rd
  have hB := hbA.trans (hn.mono hbA.size)
  clear hn hO f0 f1 hbA
  go_wp2_with fail
  refine (CT.out _ _ _ e1 Q.out).mono ?_
  rintro e w2 ⟨rfl, hn⟩
  have hB := hB.trans (hn.mono hB.size)
  clear hn
  go_wp2
  go_ret
  exact ⟨rfl, hB⟩

theorem repeat_zero (k : Nat) : Lib.repeatL [48] k = List.replicate k (48 : UInt8) := by
  induction k with
  | zero => rfl
  | succ k ih =>
    show [48] ++ Lib.repeatL [48] k = _
    rw [ih, List.replicate_succ]
    rfl
theorem pv_zeros (k : Nat) : pv (List.replicate k (48 : UInt8)) = 0 := by
  induction k with
  | zero => rfl
  | succ k ih => rw [List.replicate_succ, pv_cons, ih]; simp
theorem pv_ten (k : Nat) : pv (49 :: List.replicate k (48 : UInt8)) = 10 ^ k := by
  rw [pv_cons, pv_zeros, List.length_replicate]
  show (49 - 48) * 10 ^ k + 0 = 10 ^ k
  omega
/-- A one and noughts. -/
def tenB (k : Nat) : ByteArray := ⟨#[49]⟩ ++ ⟨(Lib.repeatL [48] k).toArray⟩
theorem tenB_list (k : Nat) : (tenB k).data.toList = 49 :: List.replicate k (48 : UInt8) := by
  unfold tenB
  rw [ByteArray.data_append, Array.toList_append, repeat_zero]
  rfl
theorem tenB_size (k : Nat) : (tenB k).size = k + 1 := by rw [← ba_len, tenB_list]; simp
theorem tenB_parse {k : Nat} (h : 10 ^ k < B32 ^ 256) : parseRes (tenB k) = (dig B32 (10 ^ k), 0) := by
  have hd : isDec (tenB k) = true := isDec_iff.2 ⟨by rw [tenB_size]; omega, by
    rw [tenB_list]
    intro c hc
    rcases List.mem_cons.1 hc with rfl | hc
    · decide
    · rw [(List.mem_replicate.1 hc).2]; decide⟩
  rw [parseRes, if_pos hd, tenB_list, pv_ten, natRes_ok (len_dig h)]
set_option maxRecDepth 100000 in
set_option maxHeartbeats 1000000 in
theorem ten_any (k : Nat) (w : World) (hk : k ≤ 2400) (h : 10 ^ k < B32 ^ 256) : Calls Tryz.prog 41 #[.int .i64 k] w (Makes .u32 74 w (dig B32 (10 ^ k))) := by
  have cR := Tryz.strings_Repeat ⟨#[48]⟩ k w (by omega) (by show 1 * k ≤ _; omega)
  have cP := fun (W : World) => parse_any (tenB k) W (by rw [tenB_size]; omega)
  rw [tenB_parse h] at cP
  have hzs : (⟨(Lib.repeatL [48] k).toArray⟩ : ByteArray).size ≤ 2400 := by rw [← ba_len]; show (Lib.repeatL [48] k).length ≤ _; rw [repeat_zero]; simp; omega
  have HT := Lib.hid (show (⟨#[49]⟩ : ByteArray) ++ ⟨(Lib.repeatL [48] k).toArray⟩ = tenB k from rfl)
  replace cR : Calls Tryz.prog 30 #[.string ⟨#[48]⟩, .int .i64 k] w fun e w' => e = .returned (.string ⟨(Lib.repeatL [48] k).toArray⟩) ∧ Below w.heap.size w w' := cR
  obtain ⟨Z, hZ⟩ : ∃ Z : ByteArray, ⟨(Lib.repeatL [48] k).toArray⟩ = Z := ⟨_, rfl⟩
  rw [hZ] at cR HT hzs
  obtain ⟨M, hM⟩ : ∃ M, 10 ^ k = M := ⟨_, rfl⟩
  rw [hM] at cP
  rw [hM]
  have CR := Lib.hid cR
  have CP := Lib.hid cP
  clear cR cP hZ hM h
  go_enter Tryz.func41, Tryz.ntmps41
  go_wp2_with fail
  refine CR.out.mono ?_
  rintro e w1 ⟨rfl, hB⟩
  have ht := HT.out
  go_wp2_with fail
  refine (CP.out _).mono ?_
  rintro e w2 ⟨v2, rfl, hO, hn⟩
  replace hO : Own .u32 w2 w1.heap.size 74 v2 (dig B32 M) := hO
  have HO := Lib.hid (hO.mono hB.size)
  have hB := hB.trans (hn.mono hB.size)
  clear hn hO ht
  go_wp2
  go_ret
  exact ⟨_, rfl, HO.out, hB⟩
end Go.Proofs.YtkjdmjglpbnmoaaGreatDoor

namespace Go.Proofs.YtkjdmjglpbnmoaaGreatDoor
open Go.RowKit Go.Lib

theorem mul_fit {N M : Nat} (hN : N < B32 ^ 256) (hM : M < B32 ^ 256) (h : N * M < B32 ^ 256) : res2 (dig B32 N) (dig B32 M) (vl B32 (dig B32 N) * vl B32 (dig B32 M)) = (dig B32 (N * M), 0) := by
  rw [dig_vl (by decide), dig_vl (by decide)]
  exact res2_ok (vld_dig hN) (vld_dig hM) h
/-- A block of two cells that is there. -/
structure Two (W : World) (g : Nat) (a b : Value) (t : TypeId) : Prop where
  row : W.heap[g]? = some (.cells #[a, b] t (0, 0))
theorem Two.facts {W : World} {g : Nat} {a b : Value} {t : TypeId} (h : Two W g a b t) : W.cell? ⟨g, 0, none⟩ = some a ∧ W.cell? ⟨g, 1, none⟩ = some b ∧ W.frozen? ⟨g, 0, none⟩ = false ∧ W.frozen? ⟨g, 1, none⟩ = false ∧ g < W.heap.size := by
  have h0 := cell_of_row W _ 0 _ _ _ h.row
  have h1 := cell_of_row W _ 1 _ _ _ h.row
  simp only [List.getElem?_toArray, List.getElem?_cons_zero, List.getElem?_cons_succ] at h0 h1
  exact ⟨h0, h1, frozen_of_row W _ 0 _ _ h.row, frozen_of_row W _ 1 _ _ h.row, (Array.getElem?_eq_some_iff.1 h.row).1⟩
theorem Two.below {W W' : World} {g : Nat} {a b : Value} {t : TypeId} (h : Two W g a b t) (hb : Below W.heap.size W W') : Two W' g a b t := ⟨(hb.block g (Array.getElem?_eq_some_iff.1 h.row).1).trans h.row⟩
theorem Two.new (w : World) (a b : Value) (t : TypeId) : Two (w.alloc (.cells #[a, b] t)) w.heap.size a b t := ⟨heap_alloc_new w _⟩
theorem Two.alloc {W : World} {g : Nat} {a b : Value} {t : TypeId} (h : Two W g a b t) (o : Obj) : Two (W.alloc o) g a b t := ⟨(Below.heap_alloc W o g (Array.getElem?_eq_some_iff.1 h.row).1).trans h.row⟩

set_option maxRecDepth 100000 in
set_option maxHeartbeats 4000000 in
theorem timesTen_up (N D k : Nat) (v : Value) (w : World) (hk : k ≤ 2400) (h10 : 10 ^ k < B32 ^ 256) (hN0 : N < B32 ^ 256) (hN : N * 10 ^ k < B32 ^ 256) (hf : Frac w v N D) :
    Calls Tryz.prog 18 #[v, .int .i64 k] w fun e w' => (∃ v', e = .returned v' ∧ Frac w' v' (N * 10 ^ k) D) ∧ Below w.heap.size w w' := by
  obtain ⟨Ao, Au, co, cu, rfl, h1, h2, h3, h4⟩ := hf
  have cT := fun (W : World) => ten_any k W hk h10
  have cM := fun (A2 : Option Addr) (c2 : Nat) (W : World) (a : Rd .u32 W Ao (dig B32 N)) (b : Rd .u32 W A2 (dig B32 (10 ^ k))) => mul_any Ao A2 co c2 (dig B32 N) (dig B32 (10 ^ k)) W (lim_dig _) (lim_dig _) (len_room hN0) (len_room h10) a b
  rw [mul_fit hN0 h10 hN] at cM
  obtain ⟨M, hM⟩ : ∃ M, N * 10 ^ k = M := ⟨_, rfl⟩
  rw [hM] at cM
  rw [hM]
  obtain ⟨T, hT⟩ : ∃ T, 10 ^ k = T := ⟨_, rfl⟩
  rw [hT] at cT cM
  have CT := Lib.hid cT
  have CM := Lib.hid cM
  obtain ⟨n, hn⟩ : ∃ n, (dig B32 N).length = n := ⟨_, rfl⟩
  rw [hn] at CM
  rw [hn]
  have HX := Lib.hid h4
  have HA := Lib.hid h3
  have hbA := ((Below.refl w.heap.size w).alloc (Nat.le_refl _) (.cells #[.slice Ao n co, .slice Au (dig B32 D).length cu] 48)).alloc (by simp) (.cells #[.slice none 0 0, .slice none 0 0] 48)
  have tF := (Two.new w (.slice Ao n co) (.slice Au (dig B32 D).length cu) 48).alloc (.cells #[.slice none 0 0, .slice none 0 0] 48)
  have tR := Two.new (w.alloc (.cells #[.slice Ao n co, .slice Au (dig B32 D).length cu] 48)) (.slice none 0 0) (.slice none 0 0) 48
  rw [World.size_alloc] at tR
  have hsz : ((w.alloc (.cells #[.slice Ao n co, .slice Au (dig B32 D).length cu] 48)).alloc (.cells #[.slice none 0 0, .slice none 0 0] 48)).heap.size = w.heap.size + 2 := by rw [World.size_alloc, World.size_alloc]
  obtain ⟨W2, hW2⟩ : ∃ W2, (w.alloc (.cells #[.slice Ao n co, .slice Au (dig B32 D).length cu] 48)).alloc (.cells #[.slice none 0 0, .slice none 0 0] 48) = W2 := ⟨_, rfl⟩
  rw [hW2] at hbA tF tR hsz
  have HW2 := Lib.hid hW2
  have HSZ := Lib.hid hsz
  obtain ⟨f0, f1, z0, z1, fl⟩ := tF.facts
  have HTF := Lib.hid tF
  have HTR := Lib.hid tR
  clear cT cM hN hN0 h10 hM hT hn h3 h4 tF tR hW2 hsz fl
  go_enter Tryz.func18, Tryz.ntmps18
  go_wp2
  rw [HW2.out]
  have hR := Below.refl W2.heap.size W2
  go_region_with (first
    | (go_at_call 41; (with_reducible refine (CT.out _).mono ?_); rintro e W3 ⟨v3, rfl, o3, n3⟩; obtain ⟨A3, c3, rfl, _⟩ := o3.slice_; have b3 : Below W2.heap.size W2 W3 := hR.drew.trans n3; have Q3 := Lib.hid o3.rd; obtain ⟨f0, f1, z0, z1, _⟩ := (HTF.out.below b3).facts; clear n3 o3)
    | (go_at_call 40; (with_reducible refine (CM.out _ _ _ (HA.out.below (hbA.trans (b3.mono hbA.size))) Q3.out).mono ?_); rintro e W4 ⟨v4, rfl, o4, n4⟩; replace o4 : Own .u32 W4 W3.heap.size 74 v4 (dig B32 M) := o4; have o4 := o4.mono b3.size; obtain ⟨Az, cz, rfl, ez⟩ := o4.slice_; have b4 : Below W2.heap.size W2 W4 := b3.trans (n4.mono b3.size); have HO := Lib.hid o4.rd; have HGE := Lib.hid (own_ge o4); obtain ⟨f0, f1, z0, z1, _⟩ := (HTF.out.below b4).facts; obtain ⟨r0, r1, y0, y1, _⟩ := (HTR.out.below b4).facts; clear n4 o4))
  all_goals
    have hsz4 : w.heap.size + 2 ≤ W4.heap.size := by have := b4.size; have := HSZ.out; omega
    go_wp2
    have hge := HGE.out
    rw [HSZ.out] at hge
    have hBw := hbA.trans (b4.mono hbA.size)
    have hBz := ((hBw.setCell (p := ⟨w.heap.size, 0, none⟩) (Nat.le_refl _) (.slice Az (dig B32 M).length cz)).setCell (p := ⟨w.heap.size + 1, 0, none⟩) (Nat.le_succ _) (.slice Az (dig B32 M).length cz)).setCell (p := ⟨w.heap.size + 1, 1, none⟩) (Nat.le_succ _) (.slice Au (dig B32 D).length cu)
    exact bodyPost_ret (v := .agg #[.slice Az (dig B32 M).length cz, .slice Au (dig B32 D).length cu]) (by simp [results, Tryz.results18, go_sem, f0, f1, r0, r1]) rfl ⟨⟨_, rfl, Az, Au, cz, cu, rfl, ez, h2, (((HO.out.far (off_ge hge (by omega)) _).far (off_ge hge (by omega)) _).far (off_ge hge (by omega)) _), HX.out.below hBz⟩, hBz⟩
set_option maxRecDepth 100000 in
set_option maxHeartbeats 4000000 in
theorem timesTen_down (N D k : Nat) (v : Value) (w : World) (hk0 : 0 < k) (hk : k ≤ 2400) (h10 : 10 ^ k < B32 ^ 256) (hN0 : D < B32 ^ 256) (hN : D * 10 ^ k < B32 ^ 256) (hf : Frac w v N D) :
    Calls Tryz.prog 18 #[v, .int .i64 (-(k : Int))] w fun e w' => (∃ v', e = .returned v' ∧ Frac w' v' N (D * 10 ^ k)) ∧ Below w.heap.size w w' := by
  obtain ⟨Ao, Au, co, cu, rfl, h1, h2, h3, h4⟩ := hf
  have cT := fun (W : World) => ten_any k W hk h10
  have cM := fun (A2 : Option Addr) (c2 : Nat) (W : World) (a : Rd .u32 W Au (dig B32 D)) (b : Rd .u32 W A2 (dig B32 (10 ^ k))) => mul_any Au A2 cu c2 (dig B32 D) (dig B32 (10 ^ k)) W (lim_dig _) (lim_dig _) (len_room hN0) (len_room h10) a b
  rw [mul_fit hN0 h10 hN] at cM
  obtain ⟨M, hM⟩ : ∃ M, D * 10 ^ k = M := ⟨_, rfl⟩
  rw [hM] at cM
  rw [hM]
  obtain ⟨T, hT⟩ : ∃ T, 10 ^ k = T := ⟨_, rfl⟩
  rw [hT] at cT cM
  have CT := Lib.hid cT
  have CM := Lib.hid cM
  obtain ⟨n, hn⟩ : ∃ n, (dig B32 D).length = n := ⟨_, rfl⟩
  rw [hn] at CM
  rw [hn]
  have HX := Lib.hid h3
  have HA := Lib.hid h4
  have hkn : ¬ (0 : Int) ≤ -(k : Int) := by omega
  have hkn2 : -(k : Int) < 0 := by omega
  have hkw : IntKind.i64.wrap (-(-(k : Int))) = (k : Int) := by rw [Int.neg_neg]; exact IntWalk.i64_in _ (by omega)
  have hkw2 : IntKind.i64.wrap (k : Int) = (k : Int) := IntWalk.i64_in _ (by omega)
  have hbA := ((Below.refl w.heap.size w).alloc (Nat.le_refl _) (.cells #[.slice Ao (dig B32 N).length co, .slice Au n cu] 48)).alloc (by simp) (.cells #[.slice none 0 0, .slice none 0 0] 48)
  have tF := (Two.new w (.slice Ao (dig B32 N).length co) (.slice Au n cu) 48).alloc (.cells #[.slice none 0 0, .slice none 0 0] 48)
  have tR := Two.new (w.alloc (.cells #[.slice Ao (dig B32 N).length co, .slice Au n cu] 48)) (.slice none 0 0) (.slice none 0 0) 48
  rw [World.size_alloc] at tR
  have hsz : ((w.alloc (.cells #[.slice Ao (dig B32 N).length co, .slice Au n cu] 48)).alloc (.cells #[.slice none 0 0, .slice none 0 0] 48)).heap.size = w.heap.size + 2 := by rw [World.size_alloc, World.size_alloc]
  obtain ⟨W2, hW2⟩ : ∃ W2, (w.alloc (.cells #[.slice Ao (dig B32 N).length co, .slice Au n cu] 48)).alloc (.cells #[.slice none 0 0, .slice none 0 0] 48) = W2 := ⟨_, rfl⟩
  rw [hW2] at hbA tF tR hsz
  have HW2 := Lib.hid hW2
  have HSZ := Lib.hid hsz
  obtain ⟨f0, f1, z0, z1, fl⟩ := tF.facts
  have HTF := Lib.hid tF
  have HTR := Lib.hid tR
  clear cT cM hN hN0 h10 hM hT hn h3 h4 tF tR hW2 hsz fl
  go_enter Tryz.func18, Tryz.ntmps18
  go_wp2
  rw [HW2.out]
  have hR := Below.refl W2.heap.size W2
  go_region_with (first
    | (go_at_call 41; (with_reducible refine (CT.out _).mono ?_); rintro e W3 ⟨v3, rfl, o3, n3⟩; obtain ⟨A3, c3, rfl, _⟩ := o3.slice_; have b3 : Below W2.heap.size W2 W3 := hR.drew.trans n3; have Q3 := Lib.hid o3.rd; obtain ⟨f0, f1, z0, z1, _⟩ := (HTF.out.below b3).facts; clear n3 o3)
    | (go_at_call 40; (with_reducible refine (CM.out _ _ _ (HA.out.below (hbA.trans (b3.mono hbA.size))) Q3.out).mono ?_); rintro e W4 ⟨v4, rfl, o4, n4⟩; replace o4 : Own .u32 W4 W3.heap.size 74 v4 (dig B32 M) := o4; have o4 := o4.mono b3.size; obtain ⟨Az, cz, rfl, ez⟩ := o4.slice_; have b4 : Below W2.heap.size W2 W4 := b3.trans (n4.mono b3.size); have HO := Lib.hid o4.rd; have HGE := Lib.hid (own_ge o4); obtain ⟨f0, f1, z0, z1, _⟩ := (HTF.out.below b4).facts; obtain ⟨r0, r1, y0, y1, _⟩ := (HTR.out.below b4).facts; clear n4 o4))
  all_goals
    have hsz4 : w.heap.size + 2 ≤ W4.heap.size := by have := b4.size; have := HSZ.out; omega
    go_wp2
    have hge := HGE.out
    rw [HSZ.out] at hge
    have hBw := hbA.trans (b4.mono hbA.size)
    have hBz := ((hBw.setCell (p := ⟨w.heap.size, 1, none⟩) (Nat.le_refl _) (.slice Az (dig B32 M).length cz)).setCell (p := ⟨w.heap.size + 1, 0, none⟩) (Nat.le_succ _) (.slice Ao (dig B32 N).length co)).setCell (p := ⟨w.heap.size + 1, 1, none⟩) (Nat.le_succ _) (.slice Az (dig B32 M).length cz)
    exact bodyPost_ret (v := .agg #[.slice Ao (dig B32 N).length co, .slice Az (dig B32 M).length cz]) (by simp [results, Tryz.results18, go_sem, f0, f1, r0, r1]) rfl ⟨⟨_, rfl, Ao, Az, co, cz, rfl, h1, ez, HX.out.below hBz, (((HO.out.far (off_ge hge (by omega)) _).far (off_ge hge (by omega)) _).far (off_ge hge (by omega)) _)⟩, hBz⟩
end Go.Proofs.YtkjdmjglpbnmoaaGreatDoor

namespace Go.Proofs.YtkjdmjglpbnmoaaGreatDoor
open Go.RowKit Go.Lib

/-- The bits without the sign. -/
def mag (b : Nat) : Nat := b % 9223372036854775808
/-- The bits of +Inf. -/
abbrev INF : Nat := 9218868437227405312
theorem run_f64bits (b : Nat) (W : World) : (callFunc 26 #[.float .f64 b]).run Tryz.prog W = .ok (.value (.int .u64 b)) W := by
  rw [run_callFunc_extern Tryz.func26 (by kernel_rfl) (by kernel_rfl) (by kernel_rfl) (e := Extern.MathFloatBits.float64bits) (by kernel_rfl)]
  rfl
theorem run_f64from (n : Nat) (W : World) : (callFunc 9 #[.int .u64 n]).run Tryz.prog W = .ok (.value (.float .f64 n)) W := by
  rw [run_callFunc_extern Tryz.func9 (by kernel_rfl) (by kernel_rfl) (by kernel_rfl) (e := Extern.MathFloatBits.float64frombits) (by kernel_rfl)]
  rfl
theorem mag_bits (b : Nat) (hb : b < 18446744073709551616) : bits .andNot .u64 (b : Int) 9223372036854775808 = ((mag b : Nat) : Int) := by
  have h := u64_andNot_nat b 9223372036854775808 hb (by omega)
  rw [show (18446744073709551615 : Nat) - 9223372036854775808 = 2 ^ 63 - 1 by decide, Nat.and_two_pow_sub_one_eq_mod] at h
  exact h
set_option maxRecDepth 100000 in
theorem abs_any (b : Nat) (w : World) (hb : b < 18446744073709551616) : Calls Tryz.prog 36 #[.float .f64 b] w fun e w' => e = .returned (.float .f64 (mag b)) ∧ w = w' := by
  have h1 := fun W => run_f64bits b W
  have h2 := fun W => run_f64from (mag b) W
  have h3 := mag_bits b hb
  go_enter Tryz.func36, Tryz.ntmps36
  go_wp2
  go_ret
  exact ⟨rfl, rfl⟩
def nanB (b : Nat) : Bool := FloatKind.f64.format.order b b != some .eq
def infB (b : Nat) : Bool := FloatKind.f64.format.order (mag b) 9218868437227405311 == some .gt
theorem isNaN_any (b : Nat) (w : World) : Calls Tryz.prog 34 #[.float .f64 b] w fun e w' => e = .returned (.bool (nanB b)) ∧ w = w' := by
  have h : (FloatKind.f64.format.order b b != some .eq) = nanB b := rfl
  go_enter Tryz.func34, Tryz.ntmps34
  go_wp2
  go_ret
  exact ⟨rfl, rfl⟩
set_option maxRecDepth 100000 in
theorem isInf_any (b : Nat) (w : World) (hb : b < 18446744073709551616) : Calls Tryz.prog 35 #[.float .f64 b, .int .i64 0] w fun e w' => e = .returned (.bool (infB b)) ∧ w = w' := by
  have CA := Lib.hid (abs_any b w hb)
  have h : (FloatKind.f64.format.order (mag b) 9218868437227405311 == some .gt) = infB b := rfl
  go_enter Tryz.func35, Tryz.ntmps35
  go_wp2_with fail
  refine CA.out.mono ?_
  rintro e w' ⟨rfl, rfl⟩
  go_wp2
  go_ret
  exact ⟨rfl, rfl⟩
end Go.Proofs.YtkjdmjglpbnmoaaGreatDoor

namespace Go.Proofs.YtkjdmjglpbnmoaaGreatDoor
open Go.RowKit Go.Lib

theorem dbl_sign : Ieee.double.signWeight = 9223372036854775808 := by decide
theorem dbl_binade : Ieee.double.binade = 4503599627370496 := by decide
theorem dbl_inf : Ieee.double.infRung = 9218868437227405312 := by decide
theorem dbl_least : Ieee.double.leastPlace = -1074 := by decide
/-- A finite float's natural and power. -/
def manF (r : Nat) : Nat := if r < 4503599627370496 then r else 4503599627370496 + r % 4503599627370496
def expF (r : Nat) : Int := if r < 4503599627370496 then -1074 else -1074 + ((r / 4503599627370496 - 1 : Nat) : Int)
theorem read_fin {b : Nat} (h : mag b < 9218868437227405312) : Ieee.double.read b = .number (b / 9223372036854775808 % 2 == 1) (manF (mag b)) (expF (mag b)) := by
  unfold Ieee.Format.read manF expF mag at *
  simp only [dbl_sign, dbl_binade, dbl_inf, dbl_least]
  split
  · rfl
  · rfl
theorem read_inf {b : Nat} (h : mag b = 9218868437227405312) : Ieee.double.read b = .infinity (b / 9223372036854775808 % 2 == 1) := by
  unfold Ieee.Format.read mag at *
  simp only [dbl_sign, dbl_binade, dbl_inf]
  rw [if_neg (by omega), if_neg (by omega), if_pos h]
theorem read_nan {b : Nat} (h : 9218868437227405312 < mag b) : Ieee.double.read b = .nan (b / 9223372036854775808 % 2 == 1) (mag b - 9218868437227405312) := by
  unfold Ieee.Format.read mag at *
  simp only [dbl_sign, dbl_binade, dbl_inf]
  rw [if_neg (by omega), if_neg (by omega), if_neg (by omega)]
theorem nan_no {b : Nat} (h : mag b ≤ 9218868437227405312) : nanB b = false := by
  show (Ieee.double.order b b != some .eq) = false
  unfold Ieee.Format.order
  rcases Nat.lt_or_ge (mag b) 9218868437227405312 with h1 | h1
  · rw [read_fin h1]
    simp [Ieee.Datum.order]
  · rw [read_inf (by omega)]
    simp [Ieee.Datum.order]
theorem nan_yes {b : Nat} (h : 9218868437227405312 < mag b) : nanB b = true := by
  show (Ieee.double.order b b != some .eq) = true
  unfold Ieee.Format.order
  rw [read_nan h]
  rfl
theorem mag_mag (b : Nat) : mag (mag b) = mag b := by unfold mag; omega
theorem mag_sign (b : Nat) : mag b / 9223372036854775808 % 2 = 0 := by unfold mag; omega
theorem read_max : Ieee.double.read 9218868437227405311 = .number false 9007199254740991 971 := by decide
theorem inf_yes {b : Nat} (h : mag b = 9218868437227405312) : infB b = true := by
  show (Ieee.double.order (mag b) 9218868437227405311 == some .gt) = true
  unfold Ieee.Format.order
  rw [read_inf (by rw [mag_mag]; exact h), read_max, mag_sign]
  rfl
theorem inf_no {b : Nat} (h : mag b < 9218868437227405312) : infB b = false := by
  show (Ieee.double.order (mag b) 9218868437227405311 == some .gt) = false
  unfold Ieee.Format.order
  rw [read_fin (by rw [mag_mag]; exact h), read_max, mag_sign, mag_mag]
  have hm : manF (mag b) ≤ 9007199254740991 := by unfold manF; split <;> omega
  have he : expF (mag b) ≤ 971 := by unfold expF; split <;> omega
  have hmin : min (expF (mag b)) 971 = expF (mag b) := by omega
  show (some (compare _ _) == some Ordering.gt) = false
  rw [hmin, Int.sub_self]
  have h1 : Ieee.signed (0 == 1) (manF (mag b)) (0 : Int).toNat = (manF (mag b) : Int) := by
    show ((manF (mag b) <<< 0 : Nat) : Int) = _
    rw [Nat.shiftLeft_zero]
  have h2 : (9007199254740991 : Int) ≤ Ieee.signed false 9007199254740991 (971 - expF (mag b)).toNat := by
    show _ ≤ ((9007199254740991 <<< _ : Nat) : Int)
    rw [Nat.shiftLeft_eq]
    have : 9007199254740991 * 1 ≤ 9007199254740991 * 2 ^ (971 - expF (mag b)).toNat := Nat.mul_le_mul_left _ (Nat.pow_pos (by omega))
    omega
  rw [h1]
  have h3 : compare (manF (mag b) : Int) (Ieee.signed false 9007199254740991 (971 - expF (mag b)).toNat) ≠ .gt := by
    intro e
    have := Int.compare_eq_gt.1 e
    omega
  cases hc : compare (manF (mag b) : Int) (Ieee.signed false 9007199254740991 (971 - expF (mag b)).toNat) with
  | lt => rfl
  | eq => rfl
  | gt => exact absurd hc h3
set_option maxRecDepth 100000 in
set_option maxHeartbeats 1000000 in
theorem parts_no (b : Nat) (w : World) (hb : b < 18446744073709551616) (h : 9218868437227405312 ≤ mag b) : Calls Tryz.prog 14 #[.float .f64 b] w fun e w' => e = .returned (.tuple #[.int .u64 0, .int .i64 0, .bool false]) ∧ w = w' := by
  have cN := isNaN_any b w
  have cI := isInf_any b w hb
  by_cases hi : mag b = 9218868437227405312
  · rw [nan_no (by omega)] at cN
    rw [inf_yes hi] at cI
    have CN := Lib.hid cN
    have CI := Lib.hid cI
    clear cN cI hi h
    go_enter Tryz.func14, Tryz.ntmps14
    go_wp2_with fail
    refine CN.out.mono ?_
    rintro e w' ⟨rfl, rfl⟩
    go_wp2_with fail
    refine CI.out.mono ?_
    rintro e w' ⟨rfl, rfl⟩
    go_wp2
    go_ret3
    exact ⟨rfl, rfl⟩
  · rw [nan_yes (by omega)] at cN
    have CN := Lib.hid cN
    clear cN cI hi h
    go_enter Tryz.func14, Tryz.ntmps14
    go_wp2_with fail
    refine CN.out.mono ?_
    rintro e w' ⟨rfl, rfl⟩
    go_wp2
    go_ret3
    exact ⟨rfl, rfl⟩
theorem low_52 (m : Nat) (h : m < 18446744073709551616) : bits .and .u64 (m : Int) 4503599627370495 = ((m % 4503599627370496 : Nat) : Int) := by
  have h1 := u64_and_nat m 4503599627370495 h (by omega)
  rw [show (4503599627370495 : Nat) = 2 ^ 52 - 1 by decide, Nat.and_two_pow_sub_one_eq_mod] at h1
  exact h1
theorem or_52 (x : Nat) (h : x < 4503599627370496) : bits .or .u64 4503599627370496 (x : Int) = 4503599627370496 + (x : Int) := by
  have h1 := u64_or_nat 4503599627370496 x (by omega) (by omega)
  rw [show (4503599627370496 : Nat) = 1 * 2 ^ 52 by decide, or_low (k := 52) h] at h1
  rw [Int.natCast_add] at h1
  exact h1
set_option maxRecDepth 100000 in
set_option maxHeartbeats 1000000 in
theorem parts_yes (b : Nat) (w : World) (hb : b < 18446744073709551616) (h : mag b < 9218868437227405312) : Calls Tryz.prog 14 #[.float .f64 b] w fun e w' => e = .returned (.tuple #[.int .u64 (manF (mag b)), .int .i64 (expF (mag b)), .bool true]) ∧ w = w' := by
  have cN := isNaN_any b w
  have cI := isInf_any b w hb
  rw [nan_no (by omega)] at cN
  rw [inf_no h] at cI
  have CN := Lib.hid cN
  have CI := Lib.hid cI
  have CA := Lib.hid (abs_any b w hb)
  have hr := run_f64bits (mag b) w
  obtain ⟨m, hm⟩ : ∃ m, mag b = m := ⟨_, rfl⟩
  rw [hm] at h CA hr
  rw [hm]
  have hl := low_52 m (by omega)
  have ho := or_52 (m % 4503599627370496) (by omega)
  obtain ⟨x, hx⟩ : ∃ x, m % 4503599627370496 = x := ⟨_, rfl⟩
  obtain ⟨y, hy⟩ : ∃ y, m / 4503599627370496 = y := ⟨_, rfl⟩
  have hy2 : y ≤ 2046 := by omega
  have hyd : (m : Int) / 4503599627370496 = (y : Int) := by omega
  rw [hx] at hl ho
  clear cN cI hm
  by_cases hs : m < 4503599627370496
  · have HM := Lib.hid (show manF m = x by rw [manF, if_pos hs]; omega)
    have HE := Lib.hid (show expF m = -1074 by rw [expF, if_pos hs])
    have hy0 : ((y : Int) == 0) = true := by rw [beq_iff_eq]; omega
    clear hx hy hs ho
    go_enter Tryz.func14, Tryz.ntmps14
    go_wp2_with fail
    refine CN.out.mono ?_
    rintro e w' ⟨rfl, rfl⟩
    go_wp2_with fail
    refine CI.out.mono ?_
    rintro e w' ⟨rfl, rfl⟩
    go_wp2_with fail
    refine CA.out.mono ?_
    rintro e w' ⟨rfl, rfl⟩
    go_wp2
    go_ret3
    exact ⟨by rw [HM.out, HE.out]; rfl, rfl⟩
  · have HM := Lib.hid (show (manF m : Int) = 4503599627370496 + (x : Int) by rw [manF, if_neg hs, hx]; omega)
    have HE := Lib.hid (show expF m = -1074 + (y : Int) - 1 by rw [expF, if_neg hs, hy]; omega)
    have hy0 : ((y : Int) == 0) = false := by rw [beq_eq_false_iff_ne]; omega
    clear hx hy hs
    go_enter Tryz.func14, Tryz.ntmps14
    go_wp2_with fail
    refine CN.out.mono ?_
    rintro e w' ⟨rfl, rfl⟩
    go_wp2_with fail
    refine CI.out.mono ?_
    rintro e w' ⟨rfl, rfl⟩
    go_wp2_with fail
    refine CA.out.mono ?_
    rintro e w' ⟨rfl, rfl⟩
    go_wp2
    go_ret3
    exact ⟨by rw [HM.out, HE.out]; rfl, rfl⟩
end Go.Proofs.YtkjdmjglpbnmoaaGreatDoor

namespace Go.Proofs.YtkjdmjglpbnmoaaGreatDoor
open Go.RowKit Go.Lib

theorem from_word (n : Nat) (w : World) (hn : n < 18446744073709551616) : Calls Tryz.prog 17 #[.int .u64 (n : Int)] w (Makes .u32 74 w (dig B32 n)) := by
  have h := from_any (n % 4294967296) (n / 4294967296) w (Nat.mod_lt _ (by omega)) (by omega)
  rw [show ((n % 4294967296 : Nat) : Int) + 4294967296 * ((n / 4294967296 : Nat) : Int) = (n : Int) by omega, Nat.mod_add_div] at h
  exact h
theorem two_lt (a b : Nat) (h : a < 32 * b) : 2 ^ a < B32 ^ b := by
  have e : B32 = 2 ^ 32 := by decide
  rw [e, ← Nat.pow_mul]
  exact Nat.pow_lt_pow_right (by omega) h
theorem man_room {M p : Nat} (hM : M < 9007199254740992) (hp : p ≤ 971) : M * 2 ^ p < B32 ^ 255 := by
  have h : M * 2 ^ p < 2 ^ 53 * 2 ^ p := Nat.mul_lt_mul_of_pos_right hM (Nat.pow_pos (by omega))
  rw [← Nat.pow_add] at h
  exact Nat.lt_trans h (two_lt _ _ (by omega))
/-- A row of numbers is not touched by a store where no number is. -/
theorem Rd.other {κ : IntKind} {W : World} {A : Option Addr} {xs : List Nat} (h : Rd κ W A xs) {g j : Nat} {u0 : Value} (hc : W.cell? ⟨g, j, none⟩ = some u0) (hu : ∀ z, u0 ≠ .int κ z) (u : Value) : Rd κ (W.setCell ⟨g, j, none⟩ u) A xs := fun i hi => by
  obtain ⟨g', o, e, hc'⟩ := h i hi
  refine ⟨g', o, e, ?_⟩
  have hne : (⟨g', o + i, none⟩ : Addr) ≠ ⟨g, j, none⟩ := fun e2 => by
    rw [e2] at hc'
    rw [hc] at hc'
    exact hu _ (Option.some.inj hc')
  rw [World.cell?_setCell_other _ _ _ _ (fun e3 => hne e3.symm)]
  exact hc'
theorem manF_lt {r : Nat} : manF r < 9007199254740992 := by unfold manF; split <;> omega
theorem expF_bd {r : Nat} (h : r < 9218868437227405312) : -1074 ≤ expF r ∧ expF r ≤ 971 := by unfold expF; split <;> omega
/-- The parts of a float as a fraction. -/
def amN (r : Nat) : Nat := manF r * 2 ^ (expF r).toNat
def amD (r : Nat) : Nat := 2 ^ (-expF r).toNat
theorem amN_lt {r : Nat} (h : r < 9218868437227405312) : amN r < B32 ^ 255 := by
  have h1 := expF_bd h
  exact man_room manF_lt (by omega)
theorem amD_lt {r : Nat} (h : r < 9218868437227405312) : amD r < B32 ^ 255 := two_lt _ _ (by have := expF_bd h; omega)
theorem amD_pos (r : Nat) : 0 < amD r := Nat.pow_pos (by omega)

def AmEnd (w : World) (N D : Nat) (f : Bool) (e : Ending) (w' : World) : Prop := (∃ v', e = .returned (.tuple #[v', .bool f]) ∧ Frac w' v' N D) ∧ Below w.heap.size w w'
/-- timesTwo by any power. -/
theorem timesTwo_any (M : Nat) (z : Int) (v : Value) (w : World) (hM : M < 9007199254740992) (h1 : -1074 ≤ z) (h2 : z ≤ 971) (hf : Frac w v M 1) :
    Calls Tryz.prog 20 #[v, .int .i64 z] w fun e w' => (∃ v', e = .returned v' ∧ Frac w' v' (M * 2 ^ z.toNat) (2 ^ (-z).toNat)) ∧ Below w.heap.size w w' := by
  have hp : ∀ a, a ≤ 1074 → 2 ^ a < B32 ^ 256 := fun a ha => two_lt _ _ (by omega)
  by_cases h : 0 ≤ z
  · obtain ⟨k, rfl⟩ : ∃ k : Nat, z = (k : Int) := ⟨z.toNat, by omega⟩
    have hb : M * 2 ^ k < B32 ^ 256 := by
      have h3 := man_room hM (p := k) (by omega)
      exact Nat.lt_trans h3 (Nat.pow_lt_pow_right (by decide) (by omega))
    have := timesTwo_up M 1 k v w (by omega) hb hf
    rw [show ((k : Nat) : Int).toNat = k from rfl, show (-((k : Nat) : Int)).toNat = 0 by omega, Nat.pow_zero]
    exact this
  · obtain ⟨k, rfl⟩ : ∃ k : Nat, z = -(k : Int) := ⟨(-z).toNat, by omega⟩
    have := timesTwo_down M 1 k v w (by omega) (by omega) (by rw [Nat.one_mul]; exact hp _ (by omega)) hf
    rw [Nat.one_mul] at this
    rw [show (-((k : Nat) : Int)).toNat = 0 by omega, show (-(-((k : Nat) : Int))).toNat = k by omega, Nat.pow_zero, Nat.mul_one]
    exact this
set_option maxRecDepth 100000 in
set_option maxHeartbeats 1000000 in
theorem amount_core (b M : Nat) (z : Int) (f : Bool) (w : World) (hM : M < 9007199254740992) (h1 : -1074 ≤ z) (h2 : z ≤ 971)
    (cP : ∀ W, Calls Tryz.prog 14 #[.float .f64 b] W fun e w' => e = .returned (.tuple #[.int .u64 M, .int .i64 z, .bool f]) ∧ W = w') :
    Calls Tryz.prog 27 #[.float .f64 b] w (AmEnd w (M * 2 ^ z.toNat) (2 ^ (-z).toNat) f) := by
  have CP := Lib.hid cP
  have CF := Lib.hid (fun (W : World) => from_word M W (by omega))
  have CO := Lib.hid (fun (W : World) => from_small 1 W (by omega))
  have CT := Lib.hid (fun (W : World) (v : Value) (h : Frac W v M 1) => timesTwo_any M z v W hM h1 h2 h)
  obtain ⟨N, hN⟩ : ∃ N, M * 2 ^ z.toNat = N := ⟨_, rfl⟩
  obtain ⟨D, hD⟩ : ∃ D, 2 ^ (-z).toNat = D := ⟨_, rfl⟩
  rw [hN, hD] at CT
  rw [hN, hD]
  have hbA := (Below.refl w.heap.size w).alloc (Nat.le_refl _) (.cells #[.slice none 0 0, .slice none 0 0] 48)
  have tR := Two.new w (.slice none 0 0) (.slice none 0 0) 48
  have HTR := Lib.hid tR
  clear cP hN hD tR
  go_enter Tryz.func27, Tryz.ntmps27
  go_wp2_with fail
  refine (CP.out _).mono ?_
  rintro e w' ⟨rfl, rfl⟩
  go_wp2_with fail
  refine (CF.out _).mono ?_
  rintro e w1 ⟨v1, rfl, o1, n1⟩
  obtain ⟨A1, c1, rfl, e1⟩ := o1.slice_
  have Q1 := Lib.hid o1.rd
  have tR := HTR.out.below n1
  have hB := hbA.trans (n1.mono hbA.size)
  clear o1 n1 HTR
  go_wp2_with fail
  refine (CO.out _).mono ?_
  rintro e w2 ⟨v2, rfl, o2, n2⟩
  obtain ⟨A2, c2, rfl, e2⟩ := o2.slice_
  have HF := Lib.hid (show Frac w2 (.agg #[.slice A1 (dig B32 M).length c1, .slice A2 (dig B32 1).length c2]) M 1 from ⟨A1, A2, c1, c2, rfl, e1, e2, Q1.out.below n2, o2.rd⟩)
  have tR := tR.below n2
  have hB := hB.trans (n2.mono hB.size)
  clear o2 n2 Q1
  go_wp2_with fail
  refine (CT.out _ _ HF.out).mono ?_
  rintro e w3 ⟨⟨v3, rfl, A3, A4, c3, c4, rfl, e3, e4, q3, q4⟩, n3⟩
  obtain ⟨r0, r1, y0, y1, yl⟩ := (tR.below n3).facts
  have hB := hB.trans (n3.mono hB.size)
  have Q3 := Lib.hid q3
  have Q4 := Lib.hid q4
  clear n3 tR HF q3 q4
  go_wp2
  have k1 : (w3.setCell ⟨w.heap.size, 0, none⟩ (.slice A3 (dig B32 N).length c3)).cell? ⟨w.heap.size, 1, none⟩ = some (.slice none 0 0) := by
    rw [World.cell?_setCell_other _ _ _ _ (fun e => by cases e)]
    exact r1
  have hBz := (hB.setCell (p := ⟨w.heap.size, 0, none⟩) (Nat.le_refl _) (.slice A3 (dig B32 N).length c3)).setCell (p := ⟨w.heap.size, 1, none⟩) (Nat.le_refl _) (.slice A4 (dig B32 D).length c4)
  exact bodyPost_ret (v := .tuple #[.agg #[.slice A3 (dig B32 N).length c3, .slice A4 (dig B32 D).length c4], .bool f]) (by simp [results, Tryz.results27, go_sem, r0, r1]) rfl ⟨⟨_, rfl, A3, A4, c3, c4, rfl, e3, e4, (Q3.out.other r0 (fun z e => by cases e) _).other k1 (fun z e => by cases e) _, (Q4.out.other r0 (fun z e => by cases e) _).other k1 (fun z e => by cases e) _⟩, hBz⟩
theorem amount_yes (b : Nat) (w : World) (hb : b < 18446744073709551616) (h : mag b < 9218868437227405312) : Calls Tryz.prog 27 #[.float .f64 b] w (AmEnd w (amN (mag b)) (amD (mag b)) true) :=
  amount_core b (manF (mag b)) (expF (mag b)) true w manF_lt (expF_bd h).1 (expF_bd h).2 (fun W => parts_yes b W hb h)
theorem amount_no (b : Nat) (w : World) (hb : b < 18446744073709551616) (h : 9218868437227405312 ≤ mag b) : Calls Tryz.prog 27 #[.float .f64 b] w (AmEnd w 0 1 false) := by
  have := amount_core b 0 0 false w (by omega) (by omega) (by omega) (fun W => parts_no b W hb h)
  rw [Nat.zero_mul] at this
  exact this
end Go.Proofs.YtkjdmjglpbnmoaaGreatDoor

namespace Go.Proofs.YtkjdmjglpbnmoaaGreatDoor
open Go.RowKit Go.Lib

theorem ten_lt (k b : Nat) (h : 4 * k < 32 * b) : 10 ^ k < B32 ^ b := by
  have h1 : 10 ^ k ≤ (2 ^ 4) ^ k := Nat.pow_le_pow_left (by decide) _
  rw [← Nat.pow_mul] at h1
  exact Nat.lt_of_le_of_lt h1 (two_lt _ _ h)
theorem amN_room {r : Nat} (h : r < 9218868437227405312) : amN r < B32 ^ 33 := by
  have h1 := expF_bd h
  have h2 : manF r * 2 ^ (expF r).toNat < 2 ^ 53 * 2 ^ (expF r).toNat := Nat.mul_lt_mul_of_pos_right manF_lt (Nat.pow_pos (by omega))
  rw [← Nat.pow_add] at h2
  exact Nat.lt_trans h2 (two_lt _ _ (by omega))
theorem amD_room {r : Nat} (h : r < 9218868437227405312) : amD r < B32 ^ 34 := two_lt _ _ (by have := expF_bd h; omega)
theorem prod_room {a b p q n : Nat} (ha : a < B32 ^ p) (hb : b < B32 ^ q) (h : p + q ≤ n) : a * b < B32 ^ n := by
  have h1 : a * b < B32 ^ p * B32 ^ q := Nat.mul_lt_mul'' ha hb
  rw [← Nat.pow_add] at h1
  exact Nat.lt_of_lt_of_le h1 (Nat.pow_le_pow_right (by decide) h)
theorem decs_len {n k : Nat} (h : n < 10 ^ k) (hk : 1 ≤ k) : 1 ≤ (decs n).length ∧ (decs n).length ≤ k := by
  unfold decs
  split
  · exact ⟨Nat.le_refl _, hk⟩
  · rename_i h0
    rw [List.length_map, List.length_reverse]
    refine ⟨?_, (dig_len_le (by decide) n k).2 h⟩
    rcases Nat.eq_zero_or_pos (dig 10 n).length with e | e
    · exact absurd (dig_nil (by decide) (List.eq_nil_of_length_eq_zero e)) h0
    · exact e
theorem decs_room {n b : Nat} (h : n < B32 ^ b) (hb : 1 ≤ b) : 1 ≤ (decs n).length ∧ (decs n).length ≤ 10 * b := by
  have h1 : B32 ^ b ≤ (10 ^ 10) ^ b := Nat.pow_le_pow_left (by decide) _
  rw [← Nat.pow_mul] at h1
  exact decs_len (Nat.lt_of_lt_of_le h h1) (by omega)
/-- Digits with as many noughts ahead that one stands ahead of the point. -/
def padT (d : List UInt8) (p : Nat) : List UInt8 := List.replicate (p + 1 - d.length) 48 ++ d
/-- The text with p digits behind the point. -/
def fixT (d : List UInt8) (p : Nat) : List UInt8 := if p = 0 then d else (padT d p).take ((padT d p).length - p) ++ 46 :: (padT d p).drop ((padT d p).length - p)
set_option maxRecDepth 100000 in
set_option maxHeartbeats 1000000 in
theorem fixed_inf (b : Nat) (p : Int) (w : World) (hb : b < 18446744073709551616) (h : 9218868437227405312 ≤ mag b) : Calls Tryz.prog 10 #[.float .f64 b, .int .i64 p] w fun e w' => e = .returned (.tuple #[.string ⟨#[]⟩, .int .i64 1]) ∧ Below w.heap.size w w' := by
  have CA := Lib.hid (amount_no b w hb h)
  clear hb h
  go_enter Tryz.func10, Tryz.ntmps10
  go_wp2_with fail
  refine CA.out.mono ?_
  rintro e w1 ⟨⟨v, rfl, Ao, Au, co, cu, rfl, e1, e2, q1, q2⟩, hB⟩
  clear q1 q2
  go_wp2
  go_ret2
  exact ⟨rfl, hB.alloc hB.size _⟩
set_option maxRecDepth 100000 in
set_option maxHeartbeats 1000000 in
theorem fixed_range (b : Nat) (p : Int) (w : World) (hb : b < 18446744073709551616) (h : mag b < 9218868437227405312) (hp : p < 0 ∨ 200 < p) : Calls Tryz.prog 10 #[.float .f64 b, .int .i64 p] w fun e w' => e = .returned (.tuple #[.string ⟨#[]⟩, .int .i64 1]) ∧ Below w.heap.size w w' := by
  have CA := Lib.hid (amount_yes b w hb h)
  have CF := Lib.hid (fun (W : World) => fits_no p W hp)
  clear hb h hp
  go_enter Tryz.func10, Tryz.ntmps10
  go_wp2_with fail
  refine CA.out.mono ?_
  rintro e w1 ⟨⟨v, rfl, Ao, Au, co, cu, rfl, e1, e2, q1, q2⟩, hB⟩
  clear q1 q2
  go_wp2_with fail
  refine (CF.out _).mono ?_
  rintro e w' ⟨rfl, rfl⟩
  go_wp2
  go_ret2
  exact ⟨rfl, hB.alloc hB.size _⟩
set_option maxRecDepth 100000 in
set_option maxHeartbeats 2000000 in
theorem fixed_yes (b p : Nat) (w : World) (hb : b < 18446744073709551616) (h : mag b < 9218868437227405312) (hp : p ≤ 200) : Calls Tryz.prog 10 #[.float .f64 b, .int .i64 p] w fun e w' => e = .returned (.tuple #[.string ⟨(fixT (decs (rnd (amN (mag b) * 10 ^ p) (amD (mag b)))) p).toArray⟩, .int .i64 0]) ∧ Below w.heap.size w w' := by
  have CA := Lib.hid (amount_yes b w hb h)
  have CF := Lib.hid (fun (W : World) => fits_yes (p : Nat) W (by omega) (by omega))
  have hN := amN_room h
  have hD := amD_room h
  have hD0 := amD_pos (mag b)
  obtain ⟨N, hNe⟩ : ∃ N, amN (mag b) = N := ⟨_, rfl⟩
  obtain ⟨D, hDe⟩ : ∃ D, amD (mag b) = D := ⟨_, rfl⟩
  rw [hNe] at CA hN
  rw [hDe] at CA hD hD0
  rw [hNe, hDe]
  have h10 : 10 ^ p < B32 ^ 26 := ten_lt _ _ (by omega)
  have hpow : ∀ a c, a ≤ c → B32 ^ a ≤ B32 ^ c := fun a c hac => Nat.pow_le_pow_right (by decide) hac
  have hNT : N * 10 ^ p < B32 ^ 59 := prod_room hN h10 (by omega)
  have CT := Lib.hid (fun (W : World) (v : Value) (hf : Frac W v N D) => timesTen_up N D p v W (by omega) (Nat.lt_of_lt_of_le h10 (hpow _ _ (by omega))) (Nat.lt_of_lt_of_le hN (hpow _ _ (by omega))) (Nat.lt_of_lt_of_le hNT (hpow _ _ (by omega))) hf)
  have cG := fun (W : World) (v : Value) (hf : Frac W v (N * 10 ^ p) D) => digits_any (N * 10 ^ p) D v W (Nat.lt_of_lt_of_le hNT (hpow _ _ (by omega))) (Nat.lt_of_lt_of_le hD (hpow _ _ (by omega))) hD0 hf
  have hq : rnd (N * 10 ^ p) D < B32 ^ 60 := by
    have h1 := rnd_le (N * 10 ^ p) D
    have h2 := Nat.div_le_self (N * 10 ^ p) D
    have h3 : B32 ^ 59 * 2 ≤ B32 ^ 60 := by rw [Nat.pow_succ]; exact Nat.mul_le_mul_left _ (by decide)
    omega
  obtain ⟨hl1, hl2⟩ := decs_room hq (by omega)
  obtain ⟨M, hM⟩ : ∃ M, N * 10 ^ p = M := ⟨_, rfl⟩
  rw [hM] at CT cG hl1 hl2
  rw [hM]
  obtain ⟨d, hd⟩ : ∃ d, decs (rnd M D) = d := ⟨_, rfl⟩
  rw [hd] at cG hl1 hl2
  rw [hd]
  have CG := Lib.hid cG
  clear cG hN hD hD0 hNe hDe h10 hpow hNT hq hM hd hb h
  by_cases hp0 : p = 0
  · have HX := Lib.hid (show fixT d p = d by rw [fixT, if_pos hp0])
    have hpb : ((p : Int) == 0) = true := by rw [beq_iff_eq]; omega
    clear hp0
    go_enter Tryz.func10, Tryz.ntmps10
    go_wp2_with fail
    refine CA.out.mono ?_
    rintro e w1 ⟨⟨v, rfl, Ao, Au, co, cu, rfl, e1, e2, q1, q2⟩, hB⟩
    have hb1 := (Below.refl w1.heap.size w1).alloc (Nat.le_refl _) (.cells #[.slice Ao (dig B32 N).length co, .slice Au (dig B32 D).length cu] 48)
    have HF := Lib.hid (show Frac (w1.alloc (.cells #[.slice Ao (dig B32 N).length co, .slice Au (dig B32 D).length cu] 48)) (.agg #[.slice Ao (dig B32 N).length co, .slice Au (dig B32 D).length cu]) N D from ⟨Ao, Au, co, cu, rfl, e1, e2, q1.below hb1, q2.below hb1⟩)
    have hB := hB.trans (hb1.mono hB.size)
    clear q1 q2 hb1
    go_wp2_with fail
    refine (CF.out _).mono ?_
    rintro e w' ⟨rfl, rfl⟩
    go_wp2_with fail
    refine (CT.out _ _ HF.out).mono ?_
    rintro e w2 ⟨⟨v2, rfl, hf2⟩, hn⟩
    have hB := hB.trans (hn.mono hB.size)
    have HF2 := Lib.hid hf2
    obtain ⟨A2, A3, c2, c3, rfl, _⟩ := hf2
    clear hn
    go_wp2_with fail
    refine (CG.out _ _ HF2.out).mono ?_
    rintro e w3 ⟨rfl, hn⟩
    have hB := hB.trans (hn.mono hB.size)
    clear hn
    go_wp2
    go_ret2
    exact ⟨by rw [HX.out]; rfl, hB⟩
  · have hp1 : 1 ≤ p := by omega
    have hpb : ((p : Int) == 0) = false := by rw [beq_eq_false_iff_ne]; omega
    obtain ⟨S, hS⟩ : ∃ S : ByteArray, (⟨d.toArray⟩ : ByteArray) = S := ⟨_, rfl⟩
    have hSl : S.data.toList = d := by rw [← hS]
    have hSz : S.size = d.length := by rw [← ba_len, hSl]
    have cG := CG.out
    rw [hS] at cG
    have CG := Lib.hid cG
    obtain ⟨z, hz⟩ : ∃ z, p + 1 - S.size = z := ⟨_, rfl⟩
    have hmx : max (0 : Int) ((p : Int) + 1 - (S.size : Int)) = (z : Int) := by omega
    have cR := fun (W : World) => Tryz.strings_Repeat ⟨#[48]⟩ z W (by omega) (by show 1 * z ≤ _; omega)
    replace cR : ∀ W : World, Calls Tryz.prog 30 #[.string ⟨#[48]⟩, .int .i64 z] W fun e w' => e = .returned (.string ⟨(Lib.repeatL [48] z).toArray⟩) ∧ Below W.heap.size W w' := cR
    obtain ⟨Z, hZ⟩ : ∃ Z : ByteArray, (⟨(Lib.repeatL [48] z).toArray⟩ : ByteArray) = Z := ⟨_, rfl⟩
    have hZl : Z.data.toList = List.replicate z 48 := by rw [← hZ, ← repeat_zero]
    have hZs : Z.size = z := by rw [← ba_len, hZl, List.length_replicate]
    rw [hZ] at cR
    have CR := Lib.hid cR
    obtain ⟨P, hP⟩ : ∃ P : ByteArray, Z ++ S = P := ⟨_, rfl⟩
    have hPl : P.data.toList = padT d p := by rw [← hP, ByteArray.data_append, Array.toList_append, hZl, hSl, padT, ← hz, hSz]
    have hPs : P.size = z + S.size := by rw [← hP, ByteArray.size_append, hZs]
    obtain ⟨q, hq⟩ : ∃ q, P.size - p = q := ⟨_, rfl⟩
    have hqi : (P.size : Int) - (p : Int) = (q : Int) := by omega
    have hqP : q ≤ P.size := by omega
    have HE := Lib.hid (show P.extract 0 q ++ ⟨#[46]⟩ ++ P.extract q P.size = ⟨(fixT d p).toArray⟩ by
      apply ByteArray.ext
      apply Array.ext'
      rw [ByteArray.data_append, ByteArray.data_append, Array.toList_append, Array.toList_append, Lib.extract_data, Lib.extract_data, hPl, fixT, if_neg hp0]
      have hl : (padT d p).length = P.size := by rw [← hPl, ba_len]
      rw [hl, hq, List.drop_zero, Nat.sub_zero, List.take_of_length_le (l := (padT d p).drop q) (by rw [List.length_drop, hl]; exact Nat.le_refl _)]
      simp)
    have hx1 : (P.extract 0 q).size = q := by rw [ByteArray.size_extract]; omega
    have hx2 : (P.extract q P.size).size = P.size - q := by rw [ByteArray.size_extract]; omega
    have hSb : S.size ≤ 600 := by omega
    have hZb : Z.size ≤ 300 := by omega
    have hPb : P.size ≤ 900 := by omega
    have hx1b : (P.extract 0 q).size ≤ 900 := by omega
    have hx2b : (P.extract q P.size).size ≤ 900 := by omega
    clear hS hSl hSz cG hz cR hZ hZl hZs hPl hPs hq hx1 hx2 hp0
    go_enter Tryz.func10, Tryz.ntmps10
    go_wp2_with fail
    refine CA.out.mono ?_
    rintro e w1 ⟨⟨v, rfl, Ao, Au, co, cu, rfl, e1, e2, q1, q2⟩, hB⟩
    have hb1 := (Below.refl w1.heap.size w1).alloc (Nat.le_refl _) (.cells #[.slice Ao (dig B32 N).length co, .slice Au (dig B32 D).length cu] 48)
    have HF := Lib.hid (show Frac (w1.alloc (.cells #[.slice Ao (dig B32 N).length co, .slice Au (dig B32 D).length cu] 48)) (.agg #[.slice Ao (dig B32 N).length co, .slice Au (dig B32 D).length cu]) N D from ⟨Ao, Au, co, cu, rfl, e1, e2, q1.below hb1, q2.below hb1⟩)
    have hB := hB.trans (hb1.mono hB.size)
    clear q1 q2 hb1
    go_wp2_with fail
    refine (CF.out _).mono ?_
    rintro e w' ⟨rfl, rfl⟩
    go_wp2_with fail
    refine (CT.out _ _ HF.out).mono ?_
    rintro e w2 ⟨⟨v2, rfl, hf2⟩, hn⟩
    have hB := hB.trans (hn.mono hB.size)
    have HF2 := Lib.hid hf2
    obtain ⟨A2, A3, c2, c3, rfl, _⟩ := hf2
    clear hn
    go_wp2_with fail
    refine (CG.out _ _ HF2.out).mono ?_
    rintro e w3 ⟨rfl, hn⟩
    have hB := hB.trans (hn.mono hB.size)
    clear hn
    go_wp2_with fail
    refine (CR.out _).mono ?_
    rintro e w4 ⟨rfl, hn⟩
    have hB := hB.trans (hn.mono hB.size)
    clear hn hmx
    go_wp2
    go_quiet (fail)
    go_wp2
    go_ret2
    exact ⟨by rw [← HE.out]; rfl, below_drewN hB _⟩
end Go.Proofs.YtkjdmjglpbnmoaaGreatDoor

namespace Go.Proofs.YtkjdmjglpbnmoaaGreatDoor
/-- What the program takes for the power of ten in 2 to the k, as a function. -/
def tenP (k : Int) : Int := k * 78913 / 262144
def mulC (k : Int) : Nat := (floatBits .mul .f64 (floatOfInt .f64 k) 4599094494223104511).getD 0
def flo (x : Nat) : Nat := FloatKind.f64.encode ((FloatKind.f64.decode x).integral .down)
def isNum : Ieee.Datum → Bool | .number .. => true | _ => false
def okT (k : Int) : Bool :=
  floatBits .mul .f64 (floatOfInt .f64 k) 4599094494223104511 == some (mulC k) && isNum (FloatKind.f64.decode (mulC k)) && floatToIntVal .f64 (flo (mulC k)) .i64 == some (tenP k)
set_option maxRecDepth 100000 in
theorem okT_all : (List.range 2201).all (fun i => okT ((i : Int) - 1100)) = true := by decide +kernel
def okP (i : Nat) : Bool :=
  decide (10 ^ (tenP (i : Int)).toNat ≤ 2 ^ i) && decide (2 ^ i < 10 ^ ((tenP (i : Int)).toNat + 1)) && decide (0 ≤ tenP (i : Int))
theorem okP_all : (List.range 1101).all okP = true := by decide +kernel
/-- Below one: 10 ^ -p is not below 2 ^ -k, and 10 ^ (-p - 1) is below it. -/
def okN (i : Nat) : Bool :=
  i == 0 || (decide (2 ^ i ≤ 10 ^ (-(tenP (-(i : Int)))).toNat) && decide (10 ^ ((-(tenP (-(i : Int)))).toNat - 1) < 2 ^ i) && decide (tenP (-(i : Int)) < 0))
theorem okN_all : (List.range 1101).all okN = true := by decide +kernel
theorem okT_at {k : Int} (h0 : -1100 ≤ k) (h1 : k ≤ 1100) : okT k = true := by
  have h := List.all_eq_true.1 okT_all (k + 1100).toNat (List.mem_range.2 (by omega))
  rwa [show (((k + 1100).toNat : Nat) : Int) - 1100 = k by omega] at h
theorem mulC_of {k : Int} (h0 : -1100 ≤ k) (h1 : k ≤ 1100) : floatBits .mul .f64 (floatOfInt .f64 k) 4599094494223104511 = some (mulC k) := by
  have h := okT_at h0 h1
  simp only [okT, Bool.and_eq_true, beq_iff_eq] at h
  exact h.1.1
theorem mulC_num {k : Int} (h0 : -1100 ≤ k) (h1 : k ≤ 1100) : isNum (FloatKind.f64.decode (mulC k)) = true := by
  have h := okT_at h0 h1
  simp only [okT, Bool.and_eq_true, beq_iff_eq] at h
  exact h.1.2
theorem flo_int {k : Int} (h0 : -1100 ≤ k) (h1 : k ≤ 1100) : floatToIntVal .f64 (flo (mulC k)) .i64 = some (tenP k) := by
  have h := okT_at h0 h1
  simp only [okT, Bool.and_eq_true, beq_iff_eq] at h
  exact h.2
/-- Not below one: the power of ten is not above 2 to the k, and the next one is. -/
theorem tenP_up {i : Nat} (h : i ≤ 1100) : ∃ p : Nat, tenP (i : Int) = (p : Int) ∧ 10 ^ p ≤ 2 ^ i ∧ 2 ^ i < 10 ^ (p + 1) := by
  have h := List.all_eq_true.1 okP_all i (List.mem_range.2 (by omega))
  simp only [okP, Bool.and_eq_true, decide_eq_true_eq] at h
  exact ⟨(tenP (i : Int)).toNat, by omega, h.1.1, h.1.2⟩
/-- Below one: with p + 1 for the power's opposite. -/
theorem tenP_down {i : Nat} (h0 : i ≠ 0) (h : i ≤ 1100) : ∃ p : Nat, tenP (-(i : Int)) = -((p + 1 : Nat) : Int) ∧ 2 ^ i ≤ 10 ^ (p + 1) ∧ 10 ^ p < 2 ^ i := by
  have h := List.all_eq_true.1 okN_all i (List.mem_range.2 (by omega))
  simp only [okN, Bool.and_eq_true, Bool.or_eq_true, beq_iff_eq, decide_eq_true_eq] at h
  rcases h with h | h
  · exact absurd h h0
  · obtain ⟨p, hp⟩ : ∃ p : Nat, (-(tenP (-(i : Int)))).toNat = p + 1 := ⟨(-(tenP (-(i : Int)))).toNat - 1, by omega⟩
    have h1 := h.1.1
    have h2 := h.1.2
    rw [hp] at h1 h2
    exact ⟨p, by omega, h1, h2⟩
end Go.Proofs.YtkjdmjglpbnmoaaGreatDoor

namespace Go.Proofs.YtkjdmjglpbnmoaaGreatDoor
open Go.RowKit Go.Lib

attribute [local irreducible] FloatKind.decode in
theorem floor_step (x : Nat) (s : Bool) (m : Nat) (p : Int) (hd : FloatKind.f64.decode x = .number s m p) : Extern.MathFloor.toIntegral "math.archFloor" .down #[.float .f64 x] = pure (.float .f64 (flo x)) := by
  unfold flo
  conv => lhs; whnf
  rw [hd]
theorem run_floor (x : Nat) (W : World) (h : isNum (FloatKind.f64.decode x) = true) : (callFunc 84 #[.float .f64 x]).run Tryz.prog W = .ok (.value (.float .f64 (flo x))) W := by
  rw [run_callFunc_extern Tryz.func84 (by kernel_rfl) (by kernel_rfl) (by kernel_rfl) (e := Extern.MathFloor.toIntegral "math.archFloor" .down) (by kernel_rfl)]
  cases hd : FloatKind.f64.decode x with
  | number s m p => rw [floor_step x s m p hd]; rfl
  | infinity s => rw [hd] at h; cases h
  | nan s t => rw [hd] at h; cases h
theorem floor_any (x : Nat) (w : World) (h : isNum (FloatKind.f64.decode x) = true) : Calls Tryz.prog 63 #[.float .f64 x] w fun e w' => e = .returned (.float .f64 (flo x)) ∧ w = w' := by
  have h1 := fun W => run_floor x W h
  go_enter Tryz.func63, Tryz.ntmps63
  go_wp2
  go_ret
  exact ⟨rfl, rfl⟩
theorem tens_any (k : Int) (w : World) (h0 : -1100 ≤ k) (h1 : k ≤ 1100) : Calls Tryz.prog 33 #[.int .i64 k] w fun e w' => e = .returned (.int .i64 (tenP k)) ∧ w = w' := by
  have CF := Lib.hid (floor_any (mulC k) w (mulC_num h0 h1))
  have hm : ∀ t W, (binOp .mul t (.float .f64 (floatOfInt .f64 k)) (.float .f64 4599094494223104511)).run Tryz.prog W = .ok (.float .f64 (mulC k)) W := fun t W => run_float_arith W .mul t .f64 _ _ _ (mulC_of h0 h1)
  have hc : ∀ W, (convert 23 3 (.float .f64 (flo (mulC k)))).run Tryz.prog W = .ok (.int .i64 (tenP k)) W := fun W => run_convert_float_int W 23 3 .f64 .i64 _ _ (by rw [Tryz.underlying23]; rfl) Tryz.underlying3 (flo_int h0 h1)
  go_enter Tryz.func33, Tryz.ntmps33
  go_wp2_with (simp only [hm])
  refine CF.out.mono ?_
  rintro e w' ⟨rfl, rfl⟩
  go_wp2_with (simp only [hc])
  go_ret
  exact ⟨rfl, rfl⟩
end Go.Proofs.YtkjdmjglpbnmoaaGreatDoor

namespace Go.Proofs.YtkjdmjglpbnmoaaGreatDoor
open Go.RowKit Go.Lib

set_option maxRecDepth 100000 in
set_option maxHeartbeats 1000000 in
theorem sci_inf (b : Nat) (p : Int) (w : World) (hb : b < 18446744073709551616) (h : 9218868437227405312 ≤ mag b) : Calls Tryz.prog 12 #[.float .f64 b, .int .i64 p] w fun e w' => e = .returned (.tuple #[.string ⟨#[]⟩, .int .i64 0, .int .i64 1]) ∧ Below w.heap.size w w' := by
  have CA := Lib.hid (amount_no b w hb h)
  clear hb h
  go_enter Tryz.func12, Tryz.ntmps12
  go_wp2_with fail
  refine CA.out.mono ?_
  rintro e w1 ⟨⟨v, rfl, Ao, Au, co, cu, rfl, e1, e2, q1, q2⟩, hB⟩
  clear q1 q2
  go_wp2
  go_ret3
  exact ⟨rfl, hB.alloc hB.size _⟩
set_option maxRecDepth 100000 in
set_option maxHeartbeats 1000000 in
theorem sci_range (b : Nat) (p : Int) (w : World) (hb : b < 18446744073709551616) (h : mag b < 9218868437227405312) (hp : p < 0 ∨ 200 < p) : Calls Tryz.prog 12 #[.float .f64 b, .int .i64 p] w fun e w' => e = .returned (.tuple #[.string ⟨#[]⟩, .int .i64 0, .int .i64 1]) ∧ Below w.heap.size w w' := by
  have CA := Lib.hid (amount_yes b w hb h)
  have CF := Lib.hid (fun (W : World) => fits_no p W hp)
  clear hb h hp
  go_enter Tryz.func12, Tryz.ntmps12
  go_wp2_with fail
  refine CA.out.mono ?_
  rintro e w1 ⟨⟨v, rfl, Ao, Au, co, cu, rfl, e1, e2, q1, q2⟩, hB⟩
  clear q1 q2
  go_wp2_with fail
  refine (CF.out _).mono ?_
  rintro e w' ⟨rfl, rfl⟩
  go_wp2
  go_ret3
  exact ⟨rfl, hB.alloc hB.size _⟩
theorem zero_read {b : Nat} (h : mag b = 0) : (FloatKind.f64.format.order b 0 == some .eq) = true := by
  show (Ieee.double.order b 0 == some .eq) = true
  unfold Ieee.Format.order
  rw [read_fin (b := b) (by omega), h, show Ieee.double.read 0 = .number false 0 (-1074) by decide]
  generalize (b / 9223372036854775808 % 2 == 1) = s
  cases s <;> decide
set_option maxRecDepth 100000 in
set_option maxHeartbeats 1000000 in
theorem sci_zero (b p : Nat) (w : World) (hb : b < 18446744073709551616) (h : mag b = 0) (hp : p ≤ 200) : Calls Tryz.prog 12 #[.float .f64 b, .int .i64 p] w fun e w' => e = .returned (.tuple #[.string ⟨(List.replicate (p + 1) (48 : UInt8)).toArray⟩, .int .i64 0, .int .i64 0]) ∧ Below w.heap.size w w' := by
  have CA := Lib.hid (amount_yes b w hb (by omega))
  have CF := Lib.hid (fun (W : World) => fits_yes (p : Nat) W (by omega) (by omega))
  have hz := zero_read h
  have cR := fun (W : World) => Tryz.strings_Repeat ⟨#[48]⟩ (p + 1) W (by omega) (by show 1 * (p + 1) ≤ _; omega)
  replace cR : ∀ W : World, Calls Tryz.prog 30 #[.string ⟨#[48]⟩, .int .i64 ((p + 1 : Nat) : Int)] W fun e w' => e = .returned (.string ⟨(Lib.repeatL [48] (p + 1)).toArray⟩) ∧ Below W.heap.size W w' := cR
  rw [repeat_zero] at cR
  rw [show ((p + 1 : Nat) : Int) = (p : Int) + 1 by omega] at cR
  have CR := Lib.hid cR
  obtain ⟨Z, hZ⟩ : ∃ Z : ByteArray, (⟨(List.replicate (p + 1) (48 : UInt8)).toArray⟩ : ByteArray) = Z := ⟨_, rfl⟩
  clear cR
  rw [hZ] at CR ⊢
  obtain ⟨N, hNe⟩ : ∃ N, amN (mag b) = N := ⟨_, rfl⟩
  obtain ⟨D, hDe⟩ : ∃ D, amD (mag b) = D := ⟨_, rfl⟩
  rw [hNe, hDe] at CA
  clear hZ hNe hDe h hb
  go_enter Tryz.func12, Tryz.ntmps12
  go_wp2_with fail
  refine CA.out.mono ?_
  rintro e w1 ⟨⟨v, rfl, Ao, Au, co, cu, rfl, e1, e2, q1, q2⟩, hB⟩
  clear q1 q2
  have hB := hB.alloc hB.size (.cells #[.slice Ao (dig B32 N).length co, .slice Au (dig B32 D).length cu] 48)
  go_wp2_with fail
  refine (CF.out _).mono ?_
  rintro e w' ⟨rfl, rfl⟩
  go_wp2_with fail
  refine (CR.out _).mono ?_
  rintro e w4 ⟨rfl, hn⟩
  have hB := hB.trans (hn.mono hB.size)
  clear hn
  go_wp2
  go_ret3
  exact ⟨rfl, hB⟩
end Go.Proofs.YtkjdmjglpbnmoaaGreatDoor

namespace Go.Proofs.YtkjdmjglpbnmoaaGreatDoor
open Go.RowKit Go.Lib

theorem timesTen_any (N D : Nat) (k : Int) (v : Value) (w : World) (h0 : -600 ≤ k) (h1 : k ≤ 600) (hN : N < B32 ^ 34) (hD : D < B32 ^ 34) (hf : Frac w v N D) :
    Calls Tryz.prog 18 #[v, .int .i64 k] w fun e w' => (∃ v', e = .returned v' ∧ Frac w' v' (N * 10 ^ k.toNat) (D * 10 ^ (-k).toNat)) ∧ Below w.heap.size w w' := by
  have hpow : ∀ a, a ≤ 256 → B32 ^ a ≤ B32 ^ 256 := fun a ha => Nat.pow_le_pow_right (by decide) ha
  have h10 : ∀ a, a ≤ 600 → 10 ^ a < B32 ^ 76 := fun a ha => ten_lt _ _ (by omega)
  by_cases h : 0 ≤ k
  · obtain ⟨n, rfl⟩ : ∃ n : Nat, k = (n : Int) := ⟨k.toNat, by omega⟩
    have e1 : ((n : Int)).toNat = n := by omega
    have e2 : (-(n : Int)).toNat = 0 := by omega
    rw [e1, e2, Nat.pow_zero, Nat.mul_one]
    have hn := h10 n (by omega)
    exact timesTen_up N D n v w (by omega) (Nat.lt_of_lt_of_le hn (hpow _ (by omega))) (Nat.lt_of_lt_of_le hN (hpow _ (by omega))) (Nat.lt_of_lt_of_le (prod_room hN hn (n := 110) (by omega)) (hpow _ (by omega))) hf
  · obtain ⟨n, rfl⟩ : ∃ n : Nat, k = -(n : Int) := ⟨(-k).toNat, by omega⟩
    have e1 : (-(n : Int)).toNat = 0 := by omega
    have e2 : (-(-(n : Int))).toNat = n := by omega
    rw [e1, e2, Nat.pow_zero, Nat.mul_one]
    have hn := h10 n (by omega)
    exact timesTen_down N D n v w (by omega) (by omega) (Nat.lt_of_lt_of_le hn (hpow _ (by omega))) (Nat.lt_of_lt_of_le hD (hpow _ (by omega))) (Nat.lt_of_lt_of_le (prod_room hD hn (n := 110) (by omega)) (hpow _ (by omega))) hf
/-- The digits of N / D times 10 to the p, less 10 to the P. -/
def sciD (N D : Nat) (k : Int) : List UInt8 := decs (rnd (N * 10 ^ k.toNat) (D * 10 ^ (-k).toNat))
theorem sci_digits (N D : Nat) (k : Int) (v : Value) (w : World) (h0 : -600 ≤ k) (h1 : k ≤ 600) (hN : N < B32 ^ 34) (hD : D < B32 ^ 34) (hD0 : 0 < D) (hf : Frac w v (N * 10 ^ k.toNat) (D * 10 ^ (-k).toNat)) :
    Calls Tryz.prog 29 #[v] w fun e w' => e = .returned (.string ⟨(sciD N D k).toArray⟩) ∧ Below w.heap.size w w' := by
  have hpow : ∀ a, a ≤ 255 → B32 ^ a ≤ B32 ^ 255 := fun a ha => Nat.pow_le_pow_right (by decide) ha
  have h10 : ∀ a, a ≤ 600 → 10 ^ a < B32 ^ 76 := fun a ha => ten_lt _ _ (by omega)
  exact digits_any _ _ v w (Nat.lt_of_lt_of_le (prod_room hN (h10 _ (by omega)) (n := 110) (by omega)) (hpow _ (by omega))) (Nat.lt_of_lt_of_le (prod_room hD (h10 _ (by omega)) (n := 110) (by omega)) (hpow _ (by omega))) (Nat.mul_pos hD0 (Nat.pow_pos (by omega))) hf
end Go.Proofs.YtkjdmjglpbnmoaaGreatDoor
