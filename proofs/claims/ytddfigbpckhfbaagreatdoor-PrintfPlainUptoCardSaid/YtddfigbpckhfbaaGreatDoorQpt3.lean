/- Several texts in one (Contracts of layer 3: fractions, timesTwo; Plain: decimal texts of numbers; Contracts of layer 2: isDigits, Parse; Contracts of layer 2: Parse; Contracts of layer 2: the bytes turned round; Text; Contracts of layer 2: Text; Contracts of layer 3: nearest, digits; Contracts of layer 3: digits, ten; Contracts of layer 3: timesTen; Contracts of layer 3: floats by their bits: Abs, IsNaN, IsInf, Parts). -/
import Derived.WalkSpells
import Derived.WalkLawsBesides
import Derived.RegionTactic
import Derived.ChangeAlike
import Derived.Lib.LazyBuf
import Derived.Lib.BufferRead
import Derived.Deep.RegionWith
import Derived.Laws.Cover2
import Derived.Laws.Externs
import Derived.Laws.BitsAll
import Derived.Test.YtddfigbpckhfbaaGreatDoorQpt1
import Derived.Test.YtddfigbpckhfbaaGreatDoorQpt2
namespace Go.Proofs.YtddfigbpckhfbaaGreatDoor
open Go.RowKit Go.Lib

theorem bitsN_low {xs : List Nat} (hx : Lim B32 xs) (h0 : xs ≠ []) (ht : Top xs) : 2 ^ (bitsN xs - 1) ≤ vl B32 xs ∧ 1 ≤ bitsN xs := by
  obtain ⟨l, y, rfl⟩ := snoc_of_ne h0
  have hll := lim_append.1 hx
  have hy : y < 4294967296 := lim_one.1 hll.2
  have hy0 := top_snoc.1 ht
  have e : Lib.bitLen y = Lib.bitLenAux 32 y := Lib.bitLenAux_fuel 32 y hy 64 (by omega)
  obtain ⟨a, b, c, d⟩ := bitLenAux_bounds 32 y hy hy0
  rw [← e] at a b c d
  have eb : bitsN (l ++ [y]) = 32 * l.length + Lib.bitLen y := by
    rw [bitsN, if_neg h0, List.length_append, List.length_singleton, Nat.add_sub_cancel, List.getD_eq_getElem?_getD, List.getElem?_append_right (Nat.le_refl _), Nat.sub_self]
    show l.length * 32 + Lib.bitLen y = _
    omega
  rw [eb, show 32 * l.length + Lib.bitLen y - 1 = 32 * l.length + (Lib.bitLen y - 1) by omega]
  refine ⟨?_, by omega⟩
  rw [vl_snoc, Nat.pow_add, Nat.pow_mul]
  have h2 : B32 ^ l.length * 2 ^ (Lib.bitLen y - 1) ≤ B32 ^ l.length * y := Nat.mul_le_mul_left _ c
  show (2 ^ 32) ^ l.length * _ ≤ _
  have h3 : (2 ^ 32) ^ l.length = B32 ^ l.length := rfl
  rw [h3]
  omega
theorem pow_below {a b : Nat} (h : 2 ^ a < B32 ^ b) : a < 32 * b := by
  have e : B32 = 2 ^ 32 := by decide
  rw [e, ← Nat.pow_mul] at h
  exact (Nat.pow_lt_pow_iff_right (by omega)).1 h
/-- A shift that has room. -/
theorem shl_fit {N k : Nat} (h : N * 2 ^ k < B32 ^ 256) : shlRes (dig B32 N) (k : Nat) = (dig B32 (N * 2 ^ k), 0) := by
  have hN : N < B32 ^ 256 := by
    have : N * 1 ≤ N * 2 ^ k := Nat.mul_le_mul_left _ (Nat.pow_pos (by omega))
    omega
  rw [shlRes, if_pos (vld_dig hN), if_neg (by omega)]
  by_cases h0 : dig B32 N = []
  · have := dig_nil (by decide) h0
    subst this
    rw [if_pos h0, Nat.zero_mul]
    rfl
  · rw [if_neg h0, if_neg, dig_vl (by decide)]
    · rfl
    · obtain ⟨h1, h2⟩ := bitsN_low (lim_dig N) h0 (dig_norm (by decide) N).2
      rw [dig_vl (by decide)] at h1
      have h3 : 2 ^ (bitsN (dig B32 N) - 1) * 2 ^ k ≤ N * 2 ^ k := Nat.mul_le_mul_right _ h1
      rw [← Nat.pow_add] at h3
      have := pow_below (Nat.lt_of_le_of_lt h3 h)
      omega
/-- A fraction. -/
def Frac (W : World) (v : Value) (N D : Nat) : Prop :=
  ∃ (Ao Au : Option Addr) (co cu : Nat), v = .agg #[.slice Ao (dig B32 N).length co, .slice Au (dig B32 D).length cu] ∧ (Ao = none → co = 0) ∧ (Au = none → cu = 0) ∧ Rd .u32 W Ao (dig B32 N) ∧ Rd .u32 W Au (dig B32 D)
theorem Frac.below {W W' : World} {v : Value} {N D : Nat} (h : Frac W v N D) (hb : Below W.heap.size W W') : Frac W' v N D := by
  obtain ⟨Ao, Au, co, cu, e, h1, h2, h3, h4⟩ := h
  exact ⟨Ao, Au, co, cu, e, h1, h2, h3.below hb, h4.below hb⟩
theorem Rd.far {κ : IntKind} {W : World} {A : Option Addr} {xs : List Nat} (h : Rd κ W A xs) {g j : Nat} (hne : Off A g) (u : Value) : Rd κ (W.setCell ⟨g, j, none⟩ u) A xs := h.kept (grown_set (grown_refl W (some g)) u) hne
theorem off_ge {A : Option Addr} {n g : Nat} (h : ∀ a, A = some a → n ≤ a.block) (hg : g < n) : Off A g := fun a e e2 => by have := h a e; omega
theorem own_ge {κ : IntKind} {w : World} {B n cap : Nat} {t : TypeId} {A : Option Addr} {xs : List Nat} (h : Own κ w B t (.slice A n cap) xs) : ∀ a, A = some a → B ≤ a.block := fun a e => by
  subst e
  exact (World.ownsRow.lt h a.block rfl).1
theorem len_room {N : Nat} (h : N < B32 ^ 256) : (dig B32 N).length ≤ 1000 := Nat.le_trans (len_dig h) (by decide)

set_option maxRecDepth 100000 in
set_option maxHeartbeats 2000000 in
theorem timesTwo_up (N D k : Nat) (v : Value) (w : World) (hk : k ≤ 100000) (hN : N * 2 ^ k < B32 ^ 256) (hf : Frac w v N D) :
    Calls Tryz.prog 159 #[v, .int .i64 k] w fun e w' => (∃ v', e = .returned v' ∧ Frac w' v' (N * 2 ^ k) D) ∧ Below w.heap.size w w' := by
  obtain ⟨Ao, Au, co, cu, rfl, h1, h2, h3, h4⟩ := hf
  have hN0 : N < B32 ^ 256 := by
    have : N * 1 ≤ N * 2 ^ k := Nat.mul_le_mul_left _ (Nat.pow_pos (by omega))
    omega
  have cS := fun (W : World) (h : Rd .u32 W Ao (dig B32 N)) => shl_any Ao co (dig B32 N) (k : Nat) W (lim_dig N) (len_room hN0) (by omega) (by omega) h
  rw [shl_fit hN] at cS
  have CS := Lib.hid cS
  obtain ⟨M, hM⟩ : ∃ M, N * 2 ^ k = M := ⟨_, rfl⟩
  rw [hM] at CS
  rw [hM]
  obtain ⟨n, hn⟩ : ∃ n, (dig B32 N).length = n := ⟨_, rfl⟩
  rw [hn] at CS
  rw [hn]
  have HX := Lib.hid h4
  have hbA := ((Below.refl w.heap.size w).alloc (Nat.le_refl _) (.cells #[.slice Ao n co, .slice Au (dig B32 D).length cu] 193)).alloc (by simp) (.cells #[.slice none 0 0, .slice none 0 0] 193)
  clear cS hN hN0 hM hn
  go_enter Tryz.func159, Tryz.ntmps159
  go_wp2_with fail
  refine (CS.out _ (h3.below hbA)).mono ?_
  rintro e w1 ⟨v1, rfl, hO, hB⟩
  replace hO : Own .u32 w1 _ 206 v1 (dig B32 M) := hO
  obtain ⟨Az, cz, rfl, ez⟩ := hO.slice_
  have hFh : w1.heap[w.heap.size]? = some (.cells #[.slice Ao n co, .slice Au (dig B32 D).length cu] 193 (0, 0)) :=
    (hB.block _ (by simp; omega)).trans ((Below.heap_alloc _ _ _ (by simp)).trans (heap_alloc_new w _))
  have hRh : w1.heap[w.heap.size + 1]? = some (.cells #[.slice none 0 0, .slice none 0 0] 193 (0, 0)) := by
    have h := heap_alloc_new (w.alloc (.cells #[.slice Ao n co, .slice Au (dig B32 D).length cu] 193)) (.cells #[.slice none 0 0, .slice none 0 0] 193)
    rw [World.size_alloc] at h
    exact (hB.block _ (by simp)).trans h
  have f0 := cell_of_row w1 _ 0 _ _ _ hFh
  have f1 := cell_of_row w1 _ 1 _ _ _ hFh
  have r0 := cell_of_row w1 _ 0 _ _ _ hRh
  have r1 := cell_of_row w1 _ 1 _ _ _ hRh
  have z0 := frozen_of_row w1 _ 0 _ _ hFh
  have z1 := frozen_of_row w1 _ 1 _ _ hFh
  have y0 := frozen_of_row w1 _ 0 _ _ hRh
  have y1 := frozen_of_row w1 _ 1 _ _ hRh
  have hge : ∀ a, Az = some a → w.heap.size + 2 ≤ a.block := by
    have h := own_ge hO
    rw [World.size_alloc, World.size_alloc] at h
    exact h
  have hBw := hbA.trans (hB.mono hbA.size)
  have hsz : w.heap.size + 2 ≤ w1.heap.size := by have := hB.size; rw [World.size_alloc, World.size_alloc] at this; omega
  have HO := Lib.hid hO.rd
  have HGE := Lib.hid hge
  simp only [List.getElem?_toArray, List.getElem?_cons_zero, List.getElem?_cons_succ] at f0 f1 r0 r1
  clear hO hB hFh hRh CS hbA h3 h4 hge
  go_wp2
  have hge := HGE.out
  have hBz := ((hBw.setCell (p := ⟨w.heap.size, 0, none⟩) (Nat.le_refl _) (.slice Az (dig B32 M).length cz)).setCell (p := ⟨w.heap.size + 1, 0, none⟩) (Nat.le_succ _) (.slice Az (dig B32 M).length cz)).setCell (p := ⟨w.heap.size + 1, 1, none⟩) (Nat.le_succ _) (.slice Au (dig B32 D).length cu)
  exact bodyPost_ret (v := .agg #[.slice Az (dig B32 M).length cz, .slice Au (dig B32 D).length cu]) (by simp [results, Tryz.results159, go_sem, r0, r1]) rfl ⟨⟨_, rfl, Az, Au, cz, cu, rfl, ez, h2, (((HO.out.far (off_ge hge (by omega)) _).far (off_ge hge (by omega)) _).far (off_ge hge (by omega)) _), HX.out.below hBz⟩, hBz⟩
set_option maxRecDepth 100000 in
set_option maxHeartbeats 2000000 in
theorem timesTwo_down (N D k : Nat) (v : Value) (w : World) (hk0 : 0 < k) (hk : k ≤ 100000) (hN : D * 2 ^ k < B32 ^ 256) (hf : Frac w v N D) :
    Calls Tryz.prog 159 #[v, .int .i64 (-(k : Int))] w fun e w' => (∃ v', e = .returned v' ∧ Frac w' v' N (D * 2 ^ k)) ∧ Below w.heap.size w w' := by
  obtain ⟨Ao, Au, co, cu, rfl, h1, h2, h3, h4⟩ := hf
  have hN0 : D < B32 ^ 256 := by
    have : D * 1 ≤ D * 2 ^ k := Nat.mul_le_mul_left _ (Nat.pow_pos (by omega))
    omega
  have cS := fun (W : World) (h : Rd .u32 W Au (dig B32 D)) => shl_any Au cu (dig B32 D) (k : Nat) W (lim_dig D) (len_room hN0) (by omega) (by omega) h
  rw [shl_fit hN] at cS
  have CS := Lib.hid cS
  obtain ⟨M, hM⟩ : ∃ M, D * 2 ^ k = M := ⟨_, rfl⟩
  rw [hM] at CS
  rw [hM]
  obtain ⟨n, hn⟩ : ∃ n, (dig B32 D).length = n := ⟨_, rfl⟩
  rw [hn] at CS
  rw [hn]
  have HX := Lib.hid h3
  have hkn : ¬ (0 : Int) ≤ -(k : Int) := by omega
  have hkn2 : -(k : Int) < 0 := by omega
  have hkw : IntKind.i64.wrap (-(-(k : Int))) = (k : Int) := by rw [Int.neg_neg]; exact IntWalk.i64_in _ (by omega)
  have hbA := ((Below.refl w.heap.size w).alloc (Nat.le_refl _) (.cells #[.slice Ao (dig B32 N).length co, .slice Au n cu] 193)).alloc (by simp) (.cells #[.slice none 0 0, .slice none 0 0] 193)
  clear cS hN hN0 hM hn
  go_enter Tryz.func159, Tryz.ntmps159
  go_wp2_with fail
  refine (CS.out _ (h4.below hbA)).mono ?_
  rintro e w1 ⟨v1, rfl, hO, hB⟩
  replace hO : Own .u32 w1 _ 206 v1 (dig B32 M) := hO
  obtain ⟨Az, cz, rfl, ez⟩ := hO.slice_
  have hFh : w1.heap[w.heap.size]? = some (.cells #[.slice Ao (dig B32 N).length co, .slice Au n cu] 193 (0, 0)) :=
    (hB.block _ (by simp; omega)).trans ((Below.heap_alloc _ _ _ (by simp)).trans (heap_alloc_new w _))
  have hRh : w1.heap[w.heap.size + 1]? = some (.cells #[.slice none 0 0, .slice none 0 0] 193 (0, 0)) := by
    have h := heap_alloc_new (w.alloc (.cells #[.slice Ao (dig B32 N).length co, .slice Au n cu] 193)) (.cells #[.slice none 0 0, .slice none 0 0] 193)
    rw [World.size_alloc] at h
    exact (hB.block _ (by simp)).trans h
  have f0 := cell_of_row w1 _ 0 _ _ _ hFh
  have f1 := cell_of_row w1 _ 1 _ _ _ hFh
  have r0 := cell_of_row w1 _ 0 _ _ _ hRh
  have r1 := cell_of_row w1 _ 1 _ _ _ hRh
  have z0 := frozen_of_row w1 _ 0 _ _ hFh
  have z1 := frozen_of_row w1 _ 1 _ _ hFh
  have y0 := frozen_of_row w1 _ 0 _ _ hRh
  have y1 := frozen_of_row w1 _ 1 _ _ hRh
  have hge : ∀ a, Az = some a → w.heap.size + 2 ≤ a.block := by
    have h := own_ge hO
    rw [World.size_alloc, World.size_alloc] at h
    exact h
  have hBw := hbA.trans (hB.mono hbA.size)
  have hsz : w.heap.size + 2 ≤ w1.heap.size := by have := hB.size; rw [World.size_alloc, World.size_alloc] at this; omega
  have HO := Lib.hid hO.rd
  have HGE := Lib.hid hge
  simp only [List.getElem?_toArray, List.getElem?_cons_zero, List.getElem?_cons_succ] at f0 f1 r0 r1
  clear hO hB hFh hRh CS hbA h3 h4 hge
  go_wp2
  have hge := HGE.out
  have hBz := ((hBw.setCell (p := ⟨w.heap.size, 1, none⟩) (Nat.le_refl _) (.slice Az (dig B32 M).length cz)).setCell (p := ⟨w.heap.size + 1, 0, none⟩) (Nat.le_succ _) (.slice Ao (dig B32 N).length co)).setCell (p := ⟨w.heap.size + 1, 1, none⟩) (Nat.le_succ _) (.slice Az (dig B32 M).length cz)
  exact bodyPost_ret (v := .agg #[.slice Ao (dig B32 N).length co, .slice Az (dig B32 M).length cz]) (by simp [results, Tryz.results159, go_sem, r0, r1]) rfl ⟨⟨_, rfl, Ao, Az, co, cz, rfl, h1, ez, HX.out.below hBz, (((HO.out.far (off_ge hge (by omega)) _).far (off_ge hge (by omega)) _).far (off_ge hge (by omega)) _)⟩, hBz⟩
end Go.Proofs.YtddfigbpckhfbaaGreatDoor

namespace Go.Proofs.YtddfigbpckhfbaaGreatDoor

/-- The number that bytes of decimal digits write, the highest first. -/
def pv : List UInt8 → Nat := fun l => l.foldl (fun a c => a * 10 + (c.toNat - 48)) 0
theorem pv_foldl (l : List UInt8) : ∀ a, l.foldl (fun a c => a * 10 + (c.toNat - 48)) a = a * 10 ^ l.length + pv l := by
  induction l with
  | nil => intro a; simp [pv]
  | cons c l ih =>
    intro a
    have h1 := ih (a * 10 + (c.toNat - 48))
    have h2 := ih (0 * 10 + (c.toNat - 48))
    simp only [List.foldl_cons, List.length_cons, pv] at h1 h2 ⊢
    rw [h1, h2, Nat.pow_succ]
    simp only [Nat.add_mul, Nat.mul_assoc, Nat.mul_comm 10]
    omega
theorem pv_append (l m : List UInt8) : pv (l ++ m) = pv l * 10 ^ m.length + pv m := by
  unfold pv
  rw [List.foldl_append, pv_foldl]
  rfl
theorem pv_nil : pv [] = 0 := rfl
theorem pv_one (c : UInt8) : pv [c] = c.toNat - 48 := by simp [pv]
theorem pv_snoc (l : List UInt8) (c : UInt8) : pv (l ++ [c]) = pv l * 10 + (c.toNat - 48) := by rw [pv_append, pv_one]; simp
/-- Decimal digits, every one. -/
def Dec (l : List UInt8) : Prop := ∀ c ∈ l, 48 ≤ c.toNat ∧ c.toNat ≤ 57
theorem dec_append {l m : List UInt8} : Dec (l ++ m) ↔ Dec l ∧ Dec m := by
  unfold Dec
  constructor
  · exact fun h => ⟨fun x hx => h x (List.mem_append_left _ hx), fun x hx => h x (List.mem_append_right _ hx)⟩
  · rintro ⟨h1, h2⟩ x hx
    rcases List.mem_append.1 hx with h | h
    · exact h1 x h
    · exact h2 x h
theorem dec_take {l : List UInt8} (h : Dec l) (k : Nat) : Dec (l.take k) := fun x hx => h x (List.mem_of_mem_take hx)
theorem dec_drop {l : List UInt8} (h : Dec l) (k : Nat) : Dec (l.drop k) := fun x hx => h x (List.mem_of_mem_drop hx)
theorem pv_cons (c : UInt8) (l : List UInt8) : pv (c :: l) = (c.toNat - 48) * 10 ^ l.length + pv l := by
  have := pv_append [c] l
  rwa [pv_one] at this
theorem pv_lt {l : List UInt8} (h : Dec l) : pv l < 10 ^ l.length := by
  induction l with
  | nil => simp [pv]
  | cons c l ih =>
    have h3 := ih (fun x hx => h x (List.mem_cons_of_mem _ hx))
    have h4 := h c List.mem_cons_self
    rw [pv_cons, List.length_cons, Nat.pow_succ]
    have : (c.toNat - 48) * 10 ^ l.length ≤ 9 * 10 ^ l.length := Nat.mul_le_mul_right _ (by omega)
    omega

/-- A digit as a byte. -/
def db (d : Nat) : UInt8 := UInt8.ofNat (48 + d)
theorem db_toNat {d : Nat} (h : d < 10) : (db d).toNat = 48 + d := by
  unfold db
  rw [UInt8.toNat_ofNat']
  omega
/-- A number's decimal text. -/
def decs (n : Nat) : List UInt8 := if n = 0 then [48] else (dig 10 n).reverse.map db
/-- Every text of digits is the decimal text of its number, noughts ahead taken away. -/
theorem decs_pv {l : List Nat} (hl : Lim 10 l) (hn : vl 10 l ≠ 0) : decs (vl 10 l) = (l.reverse.dropWhile (· == 0)).map db := by
  have hn2 : dig 10 (vl 10 l) = (l.reverse.dropWhile (· == 0)).reverse := by
    have hsplit : l = (l.reverse.dropWhile (· == 0)).reverse ++ (l.reverse.takeWhile (· == 0)).reverse := by
      rw [← List.reverse_append, List.takeWhile_append_dropWhile, List.reverse_reverse]
    have hz : vl 10 (l.reverse.takeWhile (· == 0)).reverse = 0 := by
      have : (l.reverse.takeWhile (· == 0)).reverse = List.replicate (l.reverse.takeWhile (· == 0)).reverse.length 0 := by
        rw [List.eq_replicate_iff]
        refine ⟨rfl, fun b hb => ?_⟩
        have := List.all_eq_true.1 (List.all_takeWhile (p := fun x : Nat => x == 0) (l := l.reverse)) b (List.mem_reverse.1 hb)
        simpa using this
      rw [this, vl_zeros]
    have hv : vl 10 (l.reverse.dropWhile (· == 0)).reverse = vl 10 l := by
      conv => rhs; rw [hsplit, vl_append, hz]
      simp
    refine dig_eq (by decide) ⟨?_, ?_⟩ hv
    · intro x hx
      refine hl x ?_
      rw [hsplit]
      exact List.mem_append_left _ hx
    · intro e
      rw [List.getLast?_reverse] at e
      have := List.head?_dropWhile_not (fun x : Nat => x == 0) l.reverse
      rw [e] at this
      simp at this
  rw [decs, if_neg hn, hn2, List.reverse_reverse]
theorem db_zero {d : Nat} (h : d < 10) : db d = 48 ↔ d = 0 := by
  constructor
  · intro e
    have := congrArg UInt8.toNat e
    rw [db_toNat h] at this
    simpa using this
  · rintro rfl; rfl
theorem dropWhile_db : ∀ {l : List Nat}, Lim 10 l → (l.map db).dropWhile (· == 48) = (l.dropWhile (· == 0)).map db
  | [], _ => rfl
  | x :: l, h => by
    obtain ⟨h1, h2⟩ := lim_cons.1 h
    rw [List.map_cons, List.dropWhile_cons, List.dropWhile_cons]
    by_cases hx : x = 0
    · subst hx
      simp only [BEq.rfl, if_true, show (db 0 == 48) = true by rfl]
      exact dropWhile_db h2
    · have e1 : (db x == 48) = false := by
        rw [beq_eq_false_iff_ne]; exact fun e => hx ((db_zero h1).1 e)
      have e2 : (x == 0) = false := by simpa using hx
      rw [e1, e2]
      rfl
end Go.Proofs.YtddfigbpckhfbaaGreatDoor

namespace Go.Proofs.YtddfigbpckhfbaaGreatDoor
open Go.RowKit Go.Lib

theorem ba_len (s : ByteArray) : s.data.toList.length = s.size := Array.length_toList
theorem ba_take_snoc (s : ByteArray) (k : Nat) (h : k < s.size) : s.data.toList.take (k + 1) = s.data.toList.take k ++ [s[k]] := by
  rw [List.take_succ_eq_append_getElem (by rw [ba_len]; exact h)]; rfl
theorem ba_nil {s : ByteArray} (h : s.size = 0) : s.data.toList = [] := List.eq_nil_of_length_eq_zero (by rw [ba_len]; exact h)
theorem dec_snoc {l : List UInt8} {c : UInt8} (h : Dec l) (hc : 48 ≤ c.toNat ∧ c.toNat ≤ 57) : Dec (l ++ [c]) := dec_append.2 ⟨h, fun x hx => by rw [List.mem_singleton] at hx; rw [hx]; exact hc⟩
theorem dec_at {s : ByteArray} (h : Dec s.data.toList) (k : Nat) (hk : k < s.size) : 48 ≤ s[k].toNat ∧ s[k].toNat ≤ 57 := h _ (by
  have : s[k] = s.data.toList[k]'(by rw [ba_len]; exact hk) := rfl
  rw [this]
  exact List.getElem_mem _)

/-- Is it one decimal digit or more? -/
noncomputable def isDec (s : ByteArray) : Bool := @decide (0 < s.size ∧ Dec s.data.toList) (Classical.propDecidable _)
theorem isDec_iff {s : ByteArray} : isDec s = true ↔ 0 < s.size ∧ Dec s.data.toList := by
  unfold isDec
  exact @decide_eq_true_iff _ (Classical.propDecidable _)
theorem isDec_no {s : ByteArray} : isDec s = false ↔ ¬ (0 < s.size ∧ Dec s.data.toList) := by
  unfold isDec
  exact @decide_eq_false_iff_not _ (Classical.propDecidable _)

set_option maxRecDepth 100000 in
set_option maxHeartbeats 1000000 in
theorem isDigits_any (s : ByteArray) (w : World) (hs : s.size ≤ 4194304) :
    Calls Tryz.prog 198 #[.string s] w fun e w' => e = .returned (.bool (isDec s)) ∧ w = w' := by
  go_enter Tryz.func198, Tryz.ntmps198
  go_wp2
  go_loop [6] (fun i => ∃ k : Nat, k ≤ s.size ∧ i = .int .i64 k ∧ Dec (s.data.toList.take k)) (fun i => s.size - (RowKit.intOf i).toNat)
  case atStart => exact ⟨0, Nat.zero_le _, rfl, fun _ h => by simp at h⟩
  case round =>
    obtain ⟨k, hk, rfl, hd⟩ := hrel
    by_cases hlt : k < s.size
    · by_cases h1 : s[k].toNat < 48
      · have HR := Lib.hid (show isDec s = false from isDec_no.2 (fun h => by have := (dec_at h.2 k hlt).1; omega))
        clear hd
        go_wp2
        go_ret
        exact ⟨by rw [HR.out]; rfl, rfl⟩
      · by_cases h2 : 57 < s[k].toNat
        · have HR := Lib.hid (show isDec s = false from isDec_no.2 (fun h => by have := (dec_at h.2 k hlt).2; omega))
          clear hd
          go_wp2
          go_ret
          exact ⟨by rw [HR.out]; rfl, rfl⟩
        · have hd2 := dec_snoc hd (show 48 ≤ s[k].toNat ∧ s[k].toNat ≤ 57 by omega)
          rw [← ba_take_snoc s k hlt] at hd2
          have HD := Lib.hid hd2
          clear hd hd2
          go_wp2
          go_round
          case rel => exact ⟨k + 1, hlt, by go_num, HD.out⟩
          case measure => simp [RowKit.intOf]; omega
    · obtain rfl : k = s.size := by omega
      rw [← ba_len, List.take_length] at hd
      by_cases h0 : s.size = 0
      · have HR := Lib.hid (show isDec s = false from isDec_no.2 (fun h => by omega))
        have he : s.toList = [] := by rw [Lib.toList_data]; exact ba_nil h0
        have he2 : s.toList.isEmpty = true := by rw [he]; rfl
        clear hd h0
        go_wp2
        go_ret
        exact ⟨by rw [HR.out]; rfl, rfl⟩
      · have HR := Lib.hid (show isDec s = true from isDec_iff.2 ⟨by omega, hd⟩)
        have he2 : s.toList.isEmpty = false := by
          rw [Lib.toList_data]
          cases h : s.data.toList with
          | nil => exact absurd (by rw [← ba_len, h]; rfl) h0
          | cons _ _ => rfl
        have he3 : ¬ s.toList = [] := by
          intro e; rw [e] at he2; cases he2
        clear hd h0
        go_wp2
        go_ret
        exact ⟨by rw [HR.out]; rfl, rfl⟩
end Go.Proofs.YtddfigbpckhfbaaGreatDoor

namespace Go.Proofs.YtddfigbpckhfbaaGreatDoor
open Go.RowKit Go.Lib

/-- What Parse answers. -/
noncomputable def parseRes (s : ByteArray) : List Nat × Int := if isDec s = true then natRes (pv s.data.toList) else ([], 30)
theorem pow10_le {i : Nat} (h : i ≤ 8) : 10 ^ i ≤ 100000000 := (Nat.pow_le_pow_right (by omega) h : 10 ^ i ≤ 10 ^ 8)
theorem pow10_le9 {i : Nat} (h : i ≤ 9) : 10 ^ i ≤ 1000000000 := (Nat.pow_le_pow_right (by omega) h : 10 ^ i ≤ 10 ^ 9)
theorem natRes_long {n : Nat} (h : ¬ (dig B32 n).length ≤ 256) : natRes n = ([], 3) := by rw [natRes, if_neg h]
theorem natRes_ok {n : Nat} (h : (dig B32 n).length ≤ 256) : natRes n = (dig B32 n, 0) := by rw [natRes, if_pos h]
theorem dig_grows {n m : Nat} (h : n ≤ m) (hn : ¬ (dig B32 n).length ≤ 256) : ¬ (dig B32 m).length ≤ 256 := by
  rw [dig_len_le (by decide)] at hn ⊢
  omega
theorem pv_take_le {l : List UInt8} (k : Nat) : pv (l.take k) ≤ pv l := by
  have h := pv_append (l.take k) (l.drop k)
  rw [List.take_append_drop] at h
  have : pv (l.take k) * 1 ≤ pv (l.take k) * 10 ^ (l.drop k).length := Nat.mul_le_mul_left _ (Nat.pow_pos (by omega))
  omega

set_option maxRecDepth 100000 in
set_option maxHeartbeats 2000000 in
theorem parse_any (s : ByteArray) (w : World) (hs : s.size ≤ 4194304) :
    Calls Tryz.prog 155 #[.string s] w (RowErr w.heap.size w (parseRes s)) := by
  have cD := isDigits_any s w hs
  by_cases hd : isDec s = true
  case neg =>
    have hf : isDec s = false := by simpa using hd
    have HR := Lib.hid (show parseRes s = ([], 30) by rw [parseRes, if_neg hd])
    rw [hf] at cD
    have CD := Lib.hid cD
    clear cD hd hf
    go_enter Tryz.func155, Tryz.ntmps155
    go_wp2_with fail
    refine CD.out.mono ?_
    rintro e w' ⟨rfl, rfl⟩
    go_wp2
    go_ret2
    exact ⟨_, by rw [HR.out]; rfl, by rw [HR.out]; exact Own.nil _ _ _, Below.refl _ _⟩
  have HR := Lib.hid (show parseRes s = natRes (pv s.data.toList) by rw [parseRes, if_pos hd])
  have hdec := (isDec_iff.1 hd).2
  rw [hd] at cD
  have CD := Lib.hid cD
  clear cD hd
  go_enter Tryz.func155, Tryz.ntmps155
  go_wp2_with fail
  refine CD.out.mono ?_
  rintro e w' ⟨rfl, rfl⟩
  clear CD
  go_wp2
  go_loopw [4, 5] (fun v q wr => ∃ (r : ByteArray) (k : Nat), k ≤ s.size ∧ q = .string r ∧ r.data.toList = s.data.toList.drop k ∧ Own .u32 wr w.heap.size 206 v (dig B32 (pv (s.data.toList.take k))) ∧ (dig B32 (pv (s.data.toList.take k))).length ≤ 256 ∧ Below w.heap.size w wr) (fun _ q _ => match q with | .string r => r.size | _ => 0)
  case atStart => exact ⟨s, 0, Nat.zero_le _, rfl, rfl, Own.nil _ _ _, Nat.zero_le _, Below.refl _ _⟩
  case round =>
    obtain ⟨r, k, hk, rfl, hr, hO, hlen, hB⟩ := hrel
    have hrl : r.size = s.size - k := by rw [← ba_len, hr, List.length_drop, ba_len]
    have HRD := Lib.hid hr
    by_cases hr0 : r.size = 0
    · have he : r.toList = [] := by rw [Lib.toList_data]; exact ba_nil hr0
      have he2 : r.toList.isEmpty = true := by rw [he]; rfl
      have hke : s.data.toList.take k = s.data.toList := by rw [List.take_of_length_le]; rw [ba_len]; omega
      rw [hke] at hO hlen
      have HN := Lib.hid (natRes_ok hlen)
      have HO := Lib.hid hO
      obtain ⟨A, cap, rfl, _⟩ := hO.slice
      clear hO hlen hke hr hr0 hrl
      go_wp2
      go_ret2
      exact ⟨_, by rw [HR.out, HN.out]; rfl, by rw [HR.out, HN.out]; exact HO.out, hB⟩
    · have he2 : r.toList.isEmpty = false := by
        rw [Lib.toList_data]
        cases h : r.data.toList with
        | nil => exact absurd (by rw [← ba_len, h]; rfl) hr0
        | cons _ _ => rfl
      have he3 : ¬ r.toList = [] := by
        intro e; rw [e] at he2; cases he2
      obtain ⟨m, hm⟩ : ∃ m, min 9 r.size = m := ⟨_, rfl⟩
      have hm1 : m ≤ 9 := by omega
      have hm2 : m ≤ r.size := by omega
      have hm0 : 0 < m := by omega
      have hmi : min (9 : Int) (r.size : Int) = (m : Int) := by omega
      have hmi2 : (if (9 : Int) ≤ (r.size : Int) then (9 : Int) else (r.size : Int)) = (m : Int) := by split <;> omega
      obtain ⟨p, hp⟩ : ∃ p, r.extract 0 m = p := ⟨_, rfl⟩
      have hps : p.size = m := by rw [← hp, ByteArray.size_extract]; omega
      have hpd : p.data.toList = (s.data.toList.drop k).take m := by rw [← hp, Lib.extract_data, List.drop_zero, hr, Nat.sub_zero]
      have HM := Lib.hid hm
      have HPD := Lib.hid hpd
      have HPS := Lib.hid hps
      have HRL := Lib.hid hrl
      have hkr : k + r.size = s.size := by omega
      have HKR := Lib.hid hkr
      clear hm hpd hr hrl hkr
      go_wp2
      have hpdec : Dec p.data.toList := by rw [HPD.out]; exact dec_take (dec_drop hdec _) _
      have HPDEC := Lib.hid hpdec
      clear hpdec
      obtain ⟨wo, rfl⟩ : ∃ wo : World, wo = wr := ⟨wr, rfl⟩
      go_loop [7, 8, 23] (fun a b i => ∃ i0 : Nat, i0 ≤ m ∧ i = .int .i64 i0 ∧ a = .int .u32 (10 ^ i0 : Nat) ∧ b = .int .u32 (pv (p.data.toList.take i0))) (fun _ _ i => m - (RowKit.intOf i).toNat)
      case atStart => exact ⟨0, Nat.zero_le _, rfl, rfl, rfl⟩
      case round =>
        obtain ⟨i, hi, rfl, rfl, rfl⟩ := hrel
        by_cases hlt : i < m
        · have hps := HPS.out
          have hc := dec_at HPDEC.out i (by omega)
          have hsn := ba_take_snoc p i (by omega)
          have hpv : pv (p.data.toList.take (i + 1)) = pv (p.data.toList.take i) * 10 + (p[i].toNat - 48) := by rw [hsn, pv_snoc]
          have hvl := pv_lt (dec_take HPDEC.out i)
          rw [List.length_take, Nat.min_eq_left (by rw [ba_len]; omega)] at hvl
          have hP8 := pow10_le (i := i) (by omega)
          have hPs : 10 ^ (i + 1) = 10 ^ i * 10 := Nat.pow_succ ..
          have hip : i < p.size := by omega
          obtain ⟨P, hP⟩ : ∃ P, 10 ^ i = P := ⟨_, rfl⟩
          obtain ⟨V, hV⟩ : ∃ V, pv (p.data.toList.take i) = V := ⟨_, rfl⟩
          rw [hP] at hvl hP8 hPs
          rw [hV] at hvl hpv
          rw [hP, hV]
          have HPV := Lib.hid hpv
          have HPS2 := Lib.hid hPs
          obtain ⟨c1, c2⟩ := hc
          clear hps hsn hpv hPs hP hV
          go_wp2
          go_round
          case rel => exact ⟨i + 1, hlt, by go_num, by rw [HPS2.out]; go_num, by rw [HPV.out]; exact vint (by omega)⟩
          case measure => simp [RowKit.intOf]; omega
        · obtain rfl : i = m := by omega
          have hpe : pv (p.data.toList.take i) = pv p.data.toList := by rw [List.take_of_length_le]; rw [ba_len, HPS.out]; exact Nat.le_refl _
          have hvl := pv_lt HPDEC.out
          rw [ba_len, HPS.out] at hvl
          have hP9 := pow10_le9 (i := i) hm1
          have hP0 : 0 < 10 ^ i := Nat.pow_pos (by omega)
          have hcat : pv (s.data.toList.take (k + i)) = pv (s.data.toList.take k) * 10 ^ i + pv p.data.toList := by
            rw [List.take_add, ← HPD.out, pv_append, ba_len, HPS.out]
          obtain ⟨A, cap, rfl, hcap⟩ := hO.slice
          have cM := mulAdd_any A cap (10 ^ i) (pv p.data.toList) w.heap.size (dig B32 (pv (s.data.toList.take k))) wo (dig_norm (by decide) _) (by omega) hP0 (by omega) (by omega) hB.size hO
          rw [dig_vl (by decide), ← hcat] at cM
          rw [hpe]
          obtain ⟨P, hP⟩ : ∃ P, 10 ^ i = P := ⟨_, rfl⟩
          obtain ⟨V, hV⟩ : ∃ V, pv p.data.toList = V := ⟨_, rfl⟩
          rw [hP, hV] at cM
          rw [hP, hV]
          have CM := Lib.hid cM
          have hle := pv_take_le (l := s.data.toList) (k + i)
          have HLE := Lib.hid hle
          have hri : i ≤ r.size := hm2
          have hrd2 : (r.extract i r.size).data.toList = s.data.toList.drop (k + i) := by
            rw [Lib.extract_data, HRD.out, List.drop_drop, List.take_of_length_le]
            rw [List.length_drop, ba_len]; have := HKR.out; omega
          have HRD2 := Lib.hid hrd2
          clear cM hpe hvl hP9 hP0 hcat hP hV hle hrd2 hO
          go_wp2_with fail
          refine CM.out.mono ?_
          rintro e w2 ⟨v2, rfl, hO2, hB2⟩
          obtain ⟨A2, cap2, rfl, hcap2⟩ := hO2.slice
          have hBz := hB.trans hB2
          obtain ⟨nl, hnl⟩ : ∃ nl, (dig B32 (pv (s.data.toList.take (k + i)))).length = nl := ⟨_, rfl⟩
          rw [hnl] at hO2 hcap2
          rw [hnl]
          have HO2 := Lib.hid hO2
          have HNL := Lib.hid hnl
          clear hO2 hB2 CM hB hnl
          by_cases hbig : 256 < nl
          · have HBIG := Lib.hid (natRes_long (dig_grows HLE.out (by rw [HNL.out]; omega)))
            go_wp2
            go_ret2
            exact ⟨_, by rw [HR.out, HBIG.out]; rfl, by rw [HR.out, HBIG.out]; exact Own.nil _ _ _, hBz⟩
          · go_wp2
            go_roundw
            case rel => exact ⟨r.extract i r.size, k + i, by have := HKR.out; omega, rfl, HRD2.out, by have h := HO2.out; rw [← HNL.out] at h; rw [← HNL.out]; exact h, by rw [HNL.out]; omega, hBz⟩
            case measure =>
              show (r.extract i r.size).size < r.size
              rw [ByteArray.size_extract]; omega
end Go.Proofs.YtddfigbpckhfbaaGreatDoor

namespace Go.Proofs.YtddfigbpckhfbaaGreatDoor
open Go.RowKit Go.Lib

theorem info_u8 : (Tryz.prog.info? 5).map (fun i => (i.zero, i.size, i.bytes)) = some (some (.int .u8 0), 1, 1) := by kernel_rfl
/-- Turned round at both ends, k of each. -/
def Turned (xs cur : List Nat) (k : Nat) : Prop := cur.length = xs.length ∧ ∀ j (h : j < xs.length) (h2 : j < cur.length), cur[j] = if j < k ∨ xs.length - k ≤ j then xs[xs.length - 1 - j]'(by omega) else xs[j]
theorem turned_start (xs : List Nat) : Turned xs xs 0 := ⟨rfl, fun j h _ => by rw [if_neg (by omega)]⟩
theorem turned_step {xs cur : List Nat} {k : Nat} (h : Turned xs cur k) (hk : 2 * k + 1 < xs.length) :
    Turned xs ((cur.set k (xs[xs.length - 1 - k]'(by omega))).set (xs.length - 1 - k) (xs[k]'(by omega))) (k + 1) := by
  obtain ⟨h1, h2⟩ := h
  refine ⟨by rw [List.length_set, List.length_set, h1], fun j hj hj2 => ?_⟩
  rw [List.getElem_set, List.getElem_set]
  by_cases e1 : xs.length - 1 - k = j
  · rw [if_pos e1, if_pos (by omega)]
    congr 1
    omega
  · rw [if_neg e1]
    by_cases e2 : k = j
    · rw [if_pos e2, if_pos (by omega)]
      congr 1
      omega
    · rw [if_neg e2, h2 j hj (by omega)]
      by_cases e3 : j < k ∨ xs.length - k ≤ j
      · rw [if_pos e3, if_pos (by omega)]
      · rw [if_neg e3, if_neg (by omega)]
theorem turned_get {xs cur : List Nat} {k : Nat} (h : Turned xs cur k) (hk : 2 * k + 1 < xs.length) : cur[k]'(by have := h.1; omega) = xs[k]'(by omega) ∧ cur[xs.length - 1 - k]'(by have := h.1; omega) = xs[xs.length - 1 - k]'(by omega) := by
  constructor
  · rw [h.2 k (by omega) (by have := h.1; omega), if_neg (by omega)]
  · rw [h.2 (xs.length - 1 - k) (by omega) (by have := h.1; omega), if_neg (by omega)]
theorem turned_end {xs cur : List Nat} {k : Nat} (h : Turned xs cur k) (hk : xs.length ≤ 2 * k + 1) : cur = xs.reverse := by
  apply List.ext_getElem
  · rw [h.1, List.length_reverse]
  · intro j h1 h2
    have hl := h.1
    rw [List.getElem_reverse, h.2 j (by omega) h1]
    by_cases e : j < k ∨ xs.length - k ≤ j
    · rw [if_pos e]
    · rw [if_neg e]
      congr 1
      omega

set_option maxRecDepth 100000 in
set_option maxHeartbeats 2000000 in
theorem reverse_any (g n cap B : Nat) (xs : List Nat) (w : World) (hn : n = xs.length) (hxn : xs.length ≤ 1000000) (hO : Own .u8 w B 5 (.slice (some ⟨g, 0, none⟩) n cap) xs) (hg : B ≤ g) :
    Calls Tryz.prog 283 #[.slice (some ⟨g, 0, none⟩) n cap] w fun e w' => e = .returned (.tuple #[]) ∧ Own .u8 w' B 5 (.slice (some ⟨g, 0, none⟩) n cap) xs.reverse ∧ Below B w w' := by
  have HN := Lib.hid hn
  have hxn2 : n ≤ 1000000 := by omega
  clear hn
  go_enter Tryz.func283, Tryz.ntmps283
  go_wp2
  go_loopw [2, 3] (fun i j wr => ∃ (k : Nat) (cur : List Nat), k ≤ n ∧ i = .int .i64 k ∧ j = .int .i64 ((n : Int) - 1 - (k : Int)) ∧ Turned xs cur k ∧ Own .u8 wr B 5 (.slice (some ⟨g, 0, none⟩) n cap) cur ∧ Below B w wr) (fun i _ _ => n - (RowKit.intOf i).toNat)
  case atStart => exact ⟨0, xs, Nat.zero_le _, rfl, vint (by omega), turned_start xs, hO, Below.refl _ _⟩
  case round =>
    obtain ⟨k, cur, hk, rfl, rfl, hT, hOw, hB⟩ := hrel
    by_cases hlt : 2 * k + 1 < n
    · have hT2 : 2 * k + 1 < xs.length := by rw [← HN.out]; exact hlt
      have hcl : cur.length = n := by rw [hT.1, HN.out]
      obtain ⟨q, hq⟩ : ∃ q : Nat, n - 1 - k = q := ⟨_, rfl⟩
      have hqi : (n : Int) - 1 - (k : Int) = (q : Int) := by omega
      have hkq : k < q := by omega
      have hqn : q < n := by omega
      obtain ⟨t1, t2⟩ := turned_get hT hT2
      have hst := turned_step hT hT2
      have hxq : xs.length - 1 - k = q := by rw [← HN.out]; exact hq
      have c1 := hOw.cell k (by omega)
      have c2 := hOw.cell q (by omega)
      simp only [hxq] at t2 hst
      rw [t1] at c1
      rw [t2] at c2
      obtain ⟨a, ha⟩ : ∃ a, xs[k]'(by omega) = a := ⟨_, rfl⟩
      obtain ⟨b, hb⟩ : ∃ b, xs[q]'(by have := HN.out; omega) = b := ⟨_, rfl⟩
      rw [ha] at c1 hst
      rw [hb] at c2 hst
      have f1 : wr.frozen? ⟨g, k, none⟩ = false := World.ownsRow.frozenAt (hOw.row hcl) k
      have f2 : wr.frozen? ⟨g, q, none⟩ = false := World.ownsRow.frozenAt (hOw.row hcl) q
      have o1 := (hOw.set hcl.symm k b).set (by rw [List.length_set]; exact hcl.symm) q a
      have hBz : Below B w ((wr.setCell ⟨g, k, none⟩ (.int .u8 (b : Nat))).setCell ⟨g, q, none⟩ (.int .u8 (a : Nat))) := (hB.setCell hg _).setCell hg _
      have HST := Lib.hid hst
      have HQ := Lib.hid (show k + q + 1 = n by omega)
      have HO1 := Lib.hid o1
      have h1 : (k : Int) < (q : Int) := by omega
      have h2 : (q : Int) < (n : Int) := by omega
      have h3 : (k : Int) < (n : Int) := by omega
      rw [hqi]
      clear hqi hq hcl t1 t2 hst hxq ha hb o1 hT2 hOw hB hT
      go_wp2
      go_region
      all_goals
        go_wp2
        go_roundw
        case rel => exact ⟨k + 1, _, by omega, by go_num, vint (by have := HQ.out; omega), HST.out, HO1.out, hBz.drew⟩
        case measure => simp [RowKit.intOf]; omega
    · have HE := Lib.hid (turned_end hT (by rw [← HN.out]; omega))
      have hge : ¬ (k : Int) < (n : Int) - 1 - (k : Int) := by omega
      rw [HE.out] at hOw
      have HO := Lib.hid hOw
      clear hOw hT
      go_wp2
      go_end0
      exact ⟨rfl, HO.out, hB⟩
end Go.Proofs.YtddfigbpckhfbaaGreatDoor

namespace Go.Proofs.YtddfigbpckhfbaaGreatDoor
open Go.RowKit Go.Lib

/-- Digits as bytes. -/
def d8 (ds : List Nat) : List Nat := ds.map fun d => 48 + d
theorem d8_len (ds : List Nat) : (d8 ds).length = ds.length := List.length_map _
theorem d8_snoc (ds : List Nat) (d : Nat) : d8 (ds ++ [d]) = d8 ds ++ [48 + d] := by simp [d8]
def lenOf : Value → Nat | .slice _ n _ => n | _ => 0
/-- Rows of different elements lie in different blocks. -/
theorem own_types {κ κ' : IntKind} {w : World} {B B' : Nat} {t t' : TypeId} {v v' : Value} {xs ys : List Nat} (h : Own κ w B t v xs) (h' : Own κ' w B' t' v' ys) (hne : t ≠ t') : v.ownBlock = none ∨ v.ownBlock ≠ v'.ownBlock := by
  rcases h.2 with ⟨rfl, _⟩ | ⟨g, cap, cur, rfl, _, hg, _⟩
  · exact .inl rfl
  · refine .inr fun e => ?_
    rcases h'.2 with ⟨rfl, _⟩ | ⟨g', cap', cur', rfl, _, hg', _⟩
    · cases e
    · have e2 : g = g' := Option.some.inj e
      subst e2
      rw [hg] at hg'
      cases hg'
      exact hne rfl
/-- What Text answers. -/
noncomputable def textRes (xs : List Nat) : List UInt8 × Int := if vld xs = true then (decs (vl B32 xs), 0) else ([], 30)
/-- The number of digits that have come. -/
theorem text_len {xs : List Nat} {n r : Nat} (hx : Lim B32 xs) (hr : 0 < r) (h : 10 ^ n * r ≤ vl B32 xs) : n < 10 * xs.length := by
  have h1 := vl_lt hx
  have h2 : B32 ^ xs.length ≤ (10 ^ 10) ^ xs.length := Nat.pow_le_pow_left (by decide) _
  rw [← Nat.pow_mul] at h2
  have h3 : 10 ^ n * 1 ≤ 10 ^ n * r := Nat.mul_le_mul_left _ hr
  have h4 : 10 ^ n < 10 ^ (10 * xs.length) := by omega
  exact (Nat.pow_lt_pow_iff_right (by omega)).1 h4
theorem rev_bytes {ds : List Nat} (h : Lim 10 ds) : nums .u8 (d8 ds).reverse = (ds.reverse.map db).map fun x => Value.int .u8 x.toNat := by
  unfold nums d8
  rw [← List.map_reverse, List.map_map, List.map_map]
  apply List.map_congr_left
  intro d hd
  have := h d (List.mem_reverse.1 hd)
  show Value.int .u8 ((48 + d : Nat) : Int) = Value.int .u8 ((db d).toNat : Int)
  rw [db_toNat this]
theorem conv_digits (W : World) (B : Nat) (v : Value) (l : List UInt8) (hown : W.ownsRow B 5 1 v l.length (l.map fun x => Value.int .u8 x.toNat)) :
    (convert 56 9 v).run Tryz.prog W = .ok (.string ⟨l.toArray⟩) W := by
  rcases hown.2 with ⟨rfl, h0⟩ | ⟨g, cap, cur, rfl, _⟩
  · have : l = [] := List.eq_nil_of_length_eq_zero h0
    subst this
    exact run_convert_nil_bytes W 56 9 5 0 Tryz.underlying56 Tryz.underlying5 Tryz.underlying9
  · refine run_convert_bytes_back (P := Tryz.prog) W 56 9 5 ⟨g, 0, none⟩ cap l Tryz.underlying56 Tryz.underlying5 Tryz.underlying9 (fun j hj => ?_)
    exact hown.cells (g := g) rfl j _ (by simp [hj])
/-- One digit more. -/
theorem digit_more {ds : List Nat} {p M : Nat} (h : vl 10 ds + 10 ^ ds.length * p = M) : vl 10 (ds ++ [p % 10]) + 10 ^ (ds ++ [p % 10]).length * (p / 10) = M := by
  rw [vl_snoc, List.length_append, List.length_singleton, Nat.pow_succ, ← h]
  have := digit_step (B := 10) (P := 10 ^ ds.length) (z := p)
  omega

set_option maxRecDepth 100000 in
set_option maxHeartbeats 4000000 in
theorem text_any (A : Option Addr) (ca : Nat) (xs : List Nat) (w : World) (hx : Lim B32 xs) (hxn : xs.length ≤ 1000) (hA : A = none → ca = 0) (hra : Rd .u32 w A xs) :
    Calls Tryz.prog 267 #[.slice A xs.length ca] w fun e w' => e = .returned (.tuple #[.string ⟨(textRes xs).1.toArray⟩, .int .i64 (textRes xs).2]) ∧ Below w.heap.size w w' := by
  have cV := valid_any A ca xs w (by omega) hx hra
  by_cases hvx : vld xs = true
  case neg =>
    have hvf : vld xs = false := by simpa using hvx
    have HR := Lib.hid (show textRes xs = ([], 30) by rw [textRes, if_neg hvx])
    rw [hvf] at cV
    have CV := Lib.hid cV
    clear cV hvx hvf
    go_enter Tryz.func267, Tryz.ntmps267
    go_wp2_with fail
    refine CV.out.mono ?_
    rintro e w' ⟨rfl, rfl⟩
    go_wp2
    go_ret2
    exact ⟨by rw [HR.out]; rfl, Below.refl _ _⟩
  have hnx := vld_norm hx hvx
  have HR := Lib.hid (show textRes xs = (decs (vl B32 xs), 0) by rw [textRes, if_pos hvx])
  rw [hvx] at cV
  have CV := Lib.hid cV
  clear cV hvx
  by_cases hx0 : xs = []
  · have hb : ((xs.length : Int) == 0) = true := by rw [hx0]; rfl
    have HD := Lib.hid (show decs (vl B32 xs) = [48] by rw [hx0]; rfl)
    clear hx0
    go_enter Tryz.func267, Tryz.ntmps267
    go_wp2_with fail
    refine CV.out.mono ?_
    rintro e w' ⟨rfl, rfl⟩
    go_wp2
    go_ret2
    exact ⟨by rw [HR.out, HD.out]; rfl, Below.refl _ _⟩
  obtain ⟨i0, hi, hz0, hz1, hz2⟩ := info_parts info_u8
  have hb : ((xs.length : Int) == 0) = false := by rw [beq_eq_false_iff_ne]; have := List.length_pos_iff.2 hx0; omega
  have hpos := vl_pos hnx.2 hx0
  have cF := fresh_any A ca xs w (by omega) hra hA
  have CF := Lib.hid cF
  clear cF hx0
  go_enter Tryz.func267, Tryz.ntmps267
  go_wp2_with fail
  refine CV.out.mono ?_
  rintro e w' ⟨rfl, rfl⟩
  go_wp2_with fail
  refine CF.out.mono ?_
  rintro e w1 ⟨v, rfl, hO, hB⟩
  rw [← natres_fix hnx] at hO
  clear CF CV
  go_wp2
  go_loopw [4, 5] (fun a b wr => ∃ (ds : List Nat) (r : Nat), Own .u8 wr w.heap.size 5 a (d8 ds) ∧ Own .u32 wr w.heap.size 206 b (dig B32 r) ∧ Lim 10 ds ∧ vl 10 ds + 10 ^ ds.length * r = vl B32 xs ∧ ds.length ≤ 10009 ∧ Below w.heap.size w wr) (fun a _ _ => 20000 - lenOf a)
  case atStart => exact ⟨[], vl B32 xs, Own.nil _ _ _, hO, lim_nil _, by simp [vl], Nat.zero_le _, hB⟩
  case round =>
    clear hO hB
    obtain ⟨ds, r, hO4, hO5, hL, hv, hlen, hB⟩ := hrel
    obtain ⟨A4, cap4, rfl, hc4⟩ := hO4.slice
    by_cases hr0 : r = 0
    · subst hr0
      have hv2 : vl 10 ds = vl B32 xs := by rw [← hv]; simp
      have hdn : 0 < ds.length := by
        rcases Nat.eq_zero_or_pos ds.length with h | h
        · have : ds = [] := List.eq_nil_of_length_eq_zero h
          rw [this] at hv2
          rw [← hv2] at hpos
          exact absurd hpos (by simp [vl])
        · exact h
      obtain ⟨g4, rfl, hg4⟩ := hO4.addr (by rw [d8_len]; exact hdn)
      obtain ⟨A5, cap5, rfl, _⟩ := hO5.slice
      have cR := reverse_any g4 (d8 ds).length cap4 w.heap.size (d8 ds) wr rfl (by rw [d8_len]; omega) hO4 hg4
      have CR := Lib.hid cR
      have HDP := Lib.hid (decs_pv hL (by rw [hv2]; omega))
      have HDW := Lib.hid (dropWhile_db (l := ds.reverse) (fun x h => hL x (List.mem_reverse.1 h)))
      have HV2 := Lib.hid hv2
      have HLL := Lib.hid hL
      clear cR hv hv2 hL hO4 hO5
      go_wp2_with fail
      refine CR.out.mono ?_
      rintro e w2 ⟨rfl, hO6, hB2⟩
      have hB3 := hB.trans hB2
      have hl6 : (d8 ds).reverse.length = (ds.reverse.map db).length := by rw [List.length_reverse, d8_len, List.length_map, List.length_reverse]
      have hl7 : (d8 ds).length = (ds.reverse.map db).length := by rw [d8_len, List.length_map, List.length_reverse]
      have hrow : w2.ownsRow w.heap.size 5 1 (.slice (some ⟨g4, 0, none⟩) (d8 ds).length cap4) (ds.reverse.map db).length ((ds.reverse.map db).map fun x => Value.int .u8 x.toNat) := by
        have := hO6.row hl6
        rwa [rev_bytes HLL.out] at this
      have hE : (⟨(Lib.trimLeftB (ds.reverse.map db) 48).toArray⟩ : ByteArray) = ⟨(decs (vl B32 xs)).toArray⟩ := by rw [← HV2.out, HDP.out, ← HDW.out]; rfl
      obtain ⟨bl, hbl⟩ : ∃ bl, ds.reverse.map db = bl := ⟨_, rfl⟩
      rw [hbl] at hrow hE
      have hcv := conv_digits w2 w.heap.size _ _ hrow
      have cT := Tryz.strings_TrimLeft_one ⟨bl.toArray⟩ 48 (by decide) w2
      have CT := Lib.hid cT
      have HE := Lib.hid hE
      clear hO6 hB2 hB CR hrow cT hl6 hl7 hE hbl
      go_wp2_with fail
      refine CT.out.mono ?_
      rintro e w' ⟨rfl, rfl⟩
      clear CT hcv
      have hE2 := HE.out
      rw [hE2]
      clear hE2
      go_wp2
      go_ret2
      exact ⟨by rw [HR.out]; rfl, hB3⟩
    · have hrp : 0 < r := Nat.pos_of_ne_zero hr0
      have hl := text_len hx hrp (by omega : 10 ^ ds.length * r ≤ vl B32 xs)
      have hdl : 0 < (dig B32 r).length := by
        rcases Nat.eq_zero_or_pos (dig B32 r).length with h | h
        · exact absurd (dig_nil (by decide) (List.eq_nil_of_length_eq_zero h)) hr0
        · exact h
      have hdl2 : (dig B32 r).length ≤ 1000 := by
        have h0 : (dig B32 r).length ≤ xs.length := by
          rw [dig_len_le (by decide)]
          have h1 := vl_lt hx
          have h3 : 1 * r ≤ 10 ^ ds.length * r := Nat.mul_le_mul_right _ (Nat.pow_pos (by omega))
          omega
        omega
      obtain ⟨g5, cap5, rfl, hg5, hc5⟩ := hO5.form hdl
      obtain ⟨R, hAt, hR⟩ := at_of_own hO5
      have hne := own_types hO4 hO5 (by decide)
      have cD := divLimb_any g5 0 cap5 1000000000 206 [] R (dig B32 r) wr hAt rfl (dig_norm (by decide) r).1 (by omega) (by omega) (by omega)
      have CD := Lib.hid cD
      have HRR := Lib.hid hR
      have HV := Lib.hid hv
      have HO4 := Lib.hid hO4
      have HNE := Lib.hid hne
      have hdp : (0 : Int) < ((dig B32 r).length : Int) := by omega
      clear cD hO4 hO5 hAt hR hv hne hlen
      go_wp2_with fail
      refine CD.out.mono ?_
      rintro e w3 ⟨⟨left, cur, hA3, hD3, rfl⟩, hG3⟩
      obtain ⟨e1, e2, e3, e4⟩ := one_div hD3
      rw [dig_vl (by decide)] at e1 e2
      have hB3 : Below w.heap.size w w3 := grown_below hB hG3 hB.size hg5
      have hO3 := own_of_at (B := w.heap.size) (cap := cap5) hA3 hg5 (by rw [e4]; exact HRR.out) hc5.2
      have hO43 : Own .u8 w3 w.heap.size 5 (.slice A4 (d8 ds).length cap4) (d8 ds) := HO4.out.kept hG3 (HNE.out.imp_right fun h => by simpa [Value.ownBlock] using h)
      have hleft : left < 1000000000 := hD3.2.2
      have E1 := Lib.hid e1
      have E2 := Lib.hid e2
      have E4 := Lib.hid e4
      rw [e4] at hO3
      clear hA3 hD3 hG3 e1 e2 e4 CD hB
      go_wp2
      obtain ⟨wo, rfl⟩ : ∃ wo : World, wo = w3 := ⟨w3, rfl⟩
      go_loopw [4, 6, 22] (fun a p i wi => ∃ (k q : Nat) (es : List Nat), k ≤ 9 ∧ i = .int .i64 k ∧ p = .int .u32 q ∧ q < 10 ^ (9 - k) ∧ es.length = ds.length + k ∧ Lim 10 es ∧ vl 10 es + 10 ^ es.length * q = vl 10 ds + 10 ^ ds.length * left ∧ Own .u8 wi w.heap.size 5 a (d8 es) ∧ Own .u32 wi w.heap.size 206 (.slice (some ⟨g5, 0, none⟩) (dig B32 r).length cap5) cur ∧ Below w.heap.size w wi) (fun _ _ i _ => 9 - (RowKit.intOf i).toNat)
      case atStart => exact ⟨0, left, ds, by omega, rfl, rfl, hleft, rfl, hL, rfl, hO43, hO3, hB3⟩
      case round =>
        clear hO43 hO3 hB3
        obtain ⟨k, q, es, hk, rfl, rfl, hq, hel, hLe, hve, hOa, hOb, hBi⟩ := hrel
        obtain ⟨Aa, capa, rfl, hca⟩ := hOa.slice
        by_cases hlt : k < 9
        · have hmore := digit_more hve
          have hq2 : q / 10 < 10 ^ (9 - (k + 1)) := by
            apply Nat.div_lt_of_lt_mul
            rw [Nat.mul_comm, ← Nat.pow_succ, show (9 - (k + 1)).succ = 9 - k by omega]
            exact hq
          have hqb : q < 1000000000 := Nat.lt_of_lt_of_le hq (pow10_le9 (by omega))
          have hown := hOa.row (n := es.length) (d8_len es)
          have hell := d8_len es
          have HQ2 := Lib.hid hq2
          have HMORE := Lib.hid hmore
          have HEL := Lib.hid hel
          have hne := own_types hOa hOb (by decide)
          have hsz := hBi.size
          have hes : es.length ≤ 20000 := by omega
          have hlim : Lim 10 (es ++ [q % 10]) := lim_append.2 ⟨hLe, lim_one.2 (by omega)⟩
          rw [d8_len]
          rw [d8_len] at hown hca hne
          have HNE := Lib.hid hne
          have hqi : IntKind.u8.wrap ((q : Int) % 10) = (q : Int) % 10 := IntWalk.u8_in _ (by omega)
          have HOB := Lib.hid hOb
          clear hmore hq2 hq hell hel hve hLe hne hOa hOb
          go_wp2_with (at_builtin; refine wpList_append_own _ rfl _ _ 56 rfl w.heap.size 5 i0 (.int .u8 0) 1 1 Tryz.underlying56 hi hz0 hz1 hz2 rfl (by decide) _ _ _ rfl (hown.alloc _) ⟨wr.heap.size, 0, none⟩ 1 1 [.int .u8 ((48 + q % 10 : Nat) : Int)] rfl rfl (cell_one_new _ _ _) ?c2 ?c3 ?c4 ?c5 ?_)
          case c2 => simp [Value.oneCell']
          case c3 => unfold maxLen; omega
          case c4 => omega
          case c5 => first | omega | (simp; omega)
          intro v' w4 hown' hgrow _
          have hB4 : Below w.heap.size w w4 := (hBi.alloc hsz _).grown hgrow (by simp; omega) (fun z e => (hown.lt z e).1)
          have hOb4 := (HOB.out.alloc (.cells #[.int .u8 ((48 + q % 10 : Nat) : Int)] 5)).kept hgrow (HNE.out.elim (fun h => .inr (by rw [h]; simp [Value.ownBlock])) (fun h => .inr (Ne.symm h)))
          have hOa4 := Own.snoc hown' (d8_len es).symm
          rw [← d8_snoc] at hOa4
          have HO1 := Lib.hid hOa4
          have HO2 := Lib.hid hOb4
          clear hown hown' hgrow hOa4 hOb4 hqi
          go_wp2
          go_roundw
          case rel => exact ⟨k + 1, q / 10, es ++ [q % 10], by omega, by go_num, vint (by omega), HQ2.out, by rw [List.length_append, HEL.out]; rfl, hlim, HMORE.out, HO1.out, HO2.out, hB4⟩
          case measure => simp [RowKit.intOf]; omega
        · obtain rfl : k = 9 := by omega
          obtain rfl : q = 0 := by simpa using hq
          rw [Nat.mul_zero, Nat.add_zero] at hve
          have hvn : vl 10 es + 10 ^ es.length * (r / 1000000000) = vl B32 xs := by
            rw [hve, hel, Nat.pow_add, E2.out, ← HV.out]
            have := Nat.mod_add_div r 1000000000
            have h2 := congrArg (10 ^ ds.length * ·) this
            simp only [Nat.mul_add, ← Nat.mul_assoc] at h2
            rw [show (10 : Nat) ^ 9 = 1000000000 from rfl]
            omega
          have cT := trim_own _ _ cur wr e3 (by rw [E4.out]; omega) hOb
          rw [E1.out] at cT
          have CT := Lib.hid cT
          have HVN := Lib.hid hvn
          have HOA := Lib.hid hOa
          have hel2 : es.length ≤ 10009 := by omega
          have hgr : ds.length < es.length := by omega
          rw [d8_len]
          rw [d8_len] at HOA
          clear cT hvn hOb hel hve hq hOa
          go_wp2_with fail
          refine CT.out.mono ?_
          rintro e w' ⟨⟨v', rfl, hO7, _⟩, rfl⟩
          have HO7 := Lib.hid hO7
          clear hO7 CT
          go_wp2
          go_roundw
          case rel => exact ⟨es, r / 1000000000, HOA.out, HO7.out, hLe, HVN.out, hel2, hBi⟩
          case measure =>
            show 20000 - es.length < 20000 - (d8 ds).length
            rw [d8_len]; omega
end Go.Proofs.YtddfigbpckhfbaaGreatDoor

namespace Go.Proofs.YtddfigbpckhfbaaGreatDoor
open Go.RowKit Go.Lib

/-- The natural nearest to a fraction; of two, the even one. -/
def rnd (N D : Nat) : Nat := if D < 2 * (N % D) ∨ (2 * (N % D) = D ∧ N / D % 2 = 1) then N / D + 1 else N / D
theorem rnd_le (N D : Nat) : rnd N D ≤ N / D + 1 := by unfold rnd; split <;> omega
theorem odd_low {n : Nat} : low64 (dig B32 n) % 2 = n % 2 := by
  rw [low64_mod (lim_dig n), dig_vl (by decide)]
  omega
set_option maxRecDepth 100000 in
set_option maxHeartbeats 2000000 in
theorem nearest_lt (N D : Nat) (v : Value) (w : World) (hN : N < B32 ^ 255) (hD : D < B32 ^ 255) (hD0 : 0 < D) (h : 2 * (N % D) < D) (hf : Frac w v N D) :
    Calls Tryz.prog 160 #[v] w (Makes .u32 206 w (dig B32 (N / D))) := by
  obtain ⟨Ao, Au, co, cu, rfl, h1, h2, h3, h4⟩ := hf
  have hpow : B32 ^ 255 * 2 ≤ B32 ^ 256 := by rw [Nat.pow_succ]; exact Nat.mul_le_mul_left _ (by decide)
  have hN2 : N < B32 ^ 256 := by omega
  have hD2 : D < B32 ^ 256 := by omega
  have hq1 : N / D ≤ N := Nat.div_le_self N D
  have hr1 : N % D < D := Nat.mod_lt N hD0
  have hd0 : dig B32 D ≠ [] := fun e => by have := dig_nil (by decide) e; omega
  have cD := fun (W : World) (a : Rd .u32 W Ao (dig B32 N)) (b : Rd .u32 W Au (dig B32 D)) => div_any Ao Au co cu (dig B32 N) (dig B32 D) W (lim_dig N) (lim_dig D) (len_room hN2) (len_room hD2) h1 a b
  have hdr : divRes (dig B32 N) (dig B32 D) = (dig B32 (N / D), dig B32 (N % D), 0) := by
    rw [divRes, if_pos ⟨vld_dig hN2, vld_dig hD2⟩, if_neg hd0, dig_vl (by decide), dig_vl (by decide)]
  rw [hdr] at cD
  obtain ⟨q, hqe⟩ : ∃ q, N / D = q := ⟨_, rfl⟩
  obtain ⟨r, hre⟩ : ∃ r, N % D = r := ⟨_, rfl⟩
  rw [hqe, hre] at cD
  rw [hqe] at hq1
  rw [hre] at hr1
  rw [hre] at h
  rw [hqe]
  have cS := fun (A1 : Option Addr) (c1 : Nat) (W : World) (a : Rd .u32 W A1 (dig B32 r)) => shl_any A1 c1 (dig B32 r) ((1 : Nat) : Int) W (lim_dig r) (len_room (by omega)) (by omega) (by omega) a
  rw [shl_fit (by rw [Nat.pow_one]; omega), Nat.pow_one] at cS
  obtain ⟨t, ht⟩ : ∃ t, r * 2 = t := ⟨_, rfl⟩
  have ht2 : t < B32 ^ 256 := by omega
  rw [ht] at cS
  have cC := fun (A1 : Option Addr) (c1 : Nat) (W : World) (a : Rd .u32 W A1 (dig B32 t)) (b : Rd .u32 W Au (dig B32 D)) => cmp_any A1 Au c1 cu (dig B32 t) (dig B32 D) W (dig_norm (by decide) t) (dig_norm (by decide) D) (Nat.le_trans (len_dig ht2) (by decide)) (Nat.le_trans (len_dig hD2) (by decide)) a b
  rw [dig_vl (by decide), dig_vl (by decide), cmpZ_lt (by omega)] at cC
  have cD' := Lib.hid cD
  have cS' := Lib.hid cS
  have cC' := Lib.hid cC
  have hbA := (Below.refl w.heap.size w).alloc (Nat.le_refl _) (.cells #[.slice Ao (dig B32 N).length co, .slice Au (dig B32 D).length cu] 193)
  have hFh := heap_alloc_new w (.cells #[.slice Ao (dig B32 N).length co, .slice Au (dig B32 D).length cu] 193)
  have hlt : w.heap.size < (w.alloc (.cells #[.slice Ao (dig B32 N).length co, .slice Au (dig B32 D).length cu] 193)).heap.size := by simp
  have f0 := cell_of_row _ _ 0 _ _ _ hFh
  have f1 := cell_of_row _ _ 1 _ _ _ hFh
  simp only [List.getElem?_toArray, List.getElem?_cons_zero, List.getElem?_cons_succ] at f0 f1
  clear cD cS cC hpow hN2 hD2 hq1 hr1 hd0 hdr hqe hre h ht ht2 hN hD hD0 hFh
  go_enter Tryz.func160, Tryz.ntmps160
  go_wp2_with fail
  refine (cD'.out _ (h3.below hbA) (h4.below hbA)).mono ?_
  rintro e w1 ⟨v1, v2, rfl, o1, o2, _, hn⟩
  replace o1 : Own .u32 w1 _ 206 v1 (dig B32 q) := o1
  replace o2 : Own .u32 w1 _ 206 v2 (dig B32 r) := o2
  obtain ⟨Aq, cq, rfl, hcq1, hcq2⟩ := o1.slice
  obtain ⟨Ar, cr, rfl, _⟩ := o2.slice_
  have f1 := (hn.cell (p := ⟨w.heap.size, 1, none⟩) hlt).trans f1
  have hF : w.heap.size < w1.heap.size := Nat.lt_of_lt_of_le hlt hn.size
  have hQ := o1.mono hbA.size
  have Qr := Lib.hid o2.rd
  have hB := hbA.trans (hn.mono hbA.size)
  clear f0 hlt hn o1 o2 hbA
  go_wp2_with fail
  refine (cS'.out _ _ _ Qr.out).mono ?_
  rintro e w2 ⟨v3, rfl, o3, hn⟩
  replace o3 : Own .u32 w2 _ 206 v3 (dig B32 t) := o3
  obtain ⟨At, ct, rfl, _⟩ := o3.slice_
  have f1 := (hn.cell (p := ⟨w.heap.size, 1, none⟩) hF).trans f1
  have hF := Nat.lt_of_lt_of_le hF hn.size
  have hQ := hQ.below hn
  have Qt := Lib.hid o3.rd
  have hB := hB.trans (hn.mono hB.size)
  clear hn o3 Qr
  go_wp2_with fail
  refine (cC'.out _ _ _ Qt.out (h4.below hB)).mono ?_
  rintro e w3 ⟨rfl, nd, hm⟩
  have hn : Below w2.heap.size w2 w3 := by rw [hm]; exact below_drewN' (Below.refl _ _) nd
  have hQ := hQ.below hn
  have hB := hB.trans (hn.mono hB.size)
  have HQ := Lib.hid hQ
  clear hn hm Qt f1 hF hQ
  go_wp2
  go_ret
  exact ⟨_, rfl, HQ.out, hB⟩
set_option maxRecDepth 100000 in
set_option maxHeartbeats 2000000 in
theorem nearest_gt (N D : Nat) (v : Value) (w : World) (hN : N < B32 ^ 255) (hD : D < B32 ^ 255) (hD0 : 0 < D) (h : D < 2 * (N % D)) (hf : Frac w v N D) :
    Calls Tryz.prog 160 #[v] w (Makes .u32 206 w (dig B32 (N / D + 1))) := by
  obtain ⟨Ao, Au, co, cu, rfl, h1, h2, h3, h4⟩ := hf
  have hpow : B32 ^ 255 * 2 ≤ B32 ^ 256 := by rw [Nat.pow_succ]; exact Nat.mul_le_mul_left _ (by decide)
  have hN2 : N < B32 ^ 256 := by omega
  have hD2 : D < B32 ^ 256 := by omega
  have hq1 : N / D ≤ N := Nat.div_le_self N D
  have hr1 : N % D < D := Nat.mod_lt N hD0
  have hd0 : dig B32 D ≠ [] := fun e => by have := dig_nil (by decide) e; omega
  have cD := fun (W : World) (a : Rd .u32 W Ao (dig B32 N)) (b : Rd .u32 W Au (dig B32 D)) => div_any Ao Au co cu (dig B32 N) (dig B32 D) W (lim_dig N) (lim_dig D) (len_room hN2) (len_room hD2) h1 a b
  have hdr : divRes (dig B32 N) (dig B32 D) = (dig B32 (N / D), dig B32 (N % D), 0) := by
    rw [divRes, if_pos ⟨vld_dig hN2, vld_dig hD2⟩, if_neg hd0, dig_vl (by decide), dig_vl (by decide)]
  rw [hdr] at cD
  obtain ⟨q, hqe⟩ : ∃ q, N / D = q := ⟨_, rfl⟩
  obtain ⟨r, hre⟩ : ∃ r, N % D = r := ⟨_, rfl⟩
  rw [hqe, hre] at cD
  rw [hqe] at hq1
  rw [hre] at hr1
  rw [hre] at h
  rw [hqe]
  have cS := fun (A1 : Option Addr) (c1 : Nat) (W : World) (a : Rd .u32 W A1 (dig B32 r)) => shl_any A1 c1 (dig B32 r) ((1 : Nat) : Int) W (lim_dig r) (len_room (by omega)) (by omega) (by omega) a
  rw [shl_fit (by rw [Nat.pow_one]; omega), Nat.pow_one] at cS
  obtain ⟨t, ht⟩ : ∃ t, r * 2 = t := ⟨_, rfl⟩
  have ht2 : t < B32 ^ 256 := by omega
  rw [ht] at cS
  have cC := fun (A1 : Option Addr) (c1 : Nat) (W : World) (a : Rd .u32 W A1 (dig B32 t)) (b : Rd .u32 W Au (dig B32 D)) => cmp_any A1 Au c1 cu (dig B32 t) (dig B32 D) W (dig_norm (by decide) t) (dig_norm (by decide) D) (Nat.le_trans (len_dig ht2) (by decide)) (Nat.le_trans (len_dig hD2) (by decide)) a b
  rw [dig_vl (by decide), dig_vl (by decide), cmpZ_gt (by omega)] at cC
  have cF := fun (W : World) => from_small 1 W (by omega)
  have cA := fun (A1 A2 : Option Addr) (c1 c2 : Nat) (W : World) (a : Rd .u32 W A1 (dig B32 q)) (b : Rd .u32 W A2 (dig B32 1)) => add_any A1 A2 c1 c2 (dig B32 q) (dig B32 1) W (lim_dig q) (lim_dig 1) (len_room (by omega)) (len_room (by omega)) a b
  have har : res2 (dig B32 q) (dig B32 1) (vl B32 (dig B32 q) + vl B32 (dig B32 1)) = (dig B32 (q + 1), 0) := by
    rw [dig_vl (by decide), dig_vl (by decide)]
    exact res2_ok (vld_dig (by omega)) (vld_dig (by omega)) (by omega)
  rw [har] at cA
  have cD' := Lib.hid cD
  have cS' := Lib.hid cS
  have cC' := Lib.hid cC
  have cF' := Lib.hid cF
  have cA' := Lib.hid cA
  have hbA := (Below.refl w.heap.size w).alloc (Nat.le_refl _) (.cells #[.slice Ao (dig B32 N).length co, .slice Au (dig B32 D).length cu] 193)
  have hFh := heap_alloc_new w (.cells #[.slice Ao (dig B32 N).length co, .slice Au (dig B32 D).length cu] 193)
  have hlt : w.heap.size < (w.alloc (.cells #[.slice Ao (dig B32 N).length co, .slice Au (dig B32 D).length cu] 193)).heap.size := by simp
  have f0 := cell_of_row _ _ 0 _ _ _ hFh
  have f1 := cell_of_row _ _ 1 _ _ _ hFh
  simp only [List.getElem?_toArray, List.getElem?_cons_zero, List.getElem?_cons_succ] at f0 f1
  clear cD cS cC cF cA hpow hN2 hD2 hq1 hr1 hd0 hdr hqe hre h ht ht2 hN hD hD0 hFh har
  go_enter Tryz.func160, Tryz.ntmps160
  go_wp2_with fail
  refine (cD'.out _ (h3.below hbA) (h4.below hbA)).mono ?_
  rintro e w1 ⟨v1, v2, rfl, o1, o2, _, hn⟩
  replace o1 : Own .u32 w1 _ 206 v1 (dig B32 q) := o1
  replace o2 : Own .u32 w1 _ 206 v2 (dig B32 r) := o2
  obtain ⟨Aq, cq, rfl, hcq1, hcq2⟩ := o1.slice
  obtain ⟨Ar, cr, rfl, _⟩ := o2.slice_
  have f1 := (hn.cell (p := ⟨w.heap.size, 1, none⟩) hlt).trans f1
  have hF : w.heap.size < w1.heap.size := Nat.lt_of_lt_of_le hlt hn.size
  have hQ := o1.mono hbA.size
  have Qr := Lib.hid o2.rd
  have hB := hbA.trans (hn.mono hbA.size)
  clear f0 hlt hn o1 o2 hbA
  go_wp2_with fail
  refine (cS'.out _ _ _ Qr.out).mono ?_
  rintro e w2 ⟨v3, rfl, o3, hn⟩
  replace o3 : Own .u32 w2 _ 206 v3 (dig B32 t) := o3
  obtain ⟨At, ct, rfl, _⟩ := o3.slice_
  have f1 := (hn.cell (p := ⟨w.heap.size, 1, none⟩) hF).trans f1
  have hF := Nat.lt_of_lt_of_le hF hn.size
  have hQ := hQ.below hn
  have Qt := Lib.hid o3.rd
  have hB := hB.trans (hn.mono hB.size)
  clear hn o3 Qr
  go_wp2_with fail
  refine (cC'.out _ _ _ Qt.out (h4.below hB)).mono ?_
  rintro e w3 ⟨rfl, nd, hm⟩
  have hn : Below w2.heap.size w2 w3 := by rw [hm]; exact below_drewN' (Below.refl _ _) nd
  have hQ := hQ.below hn
  have hB := hB.trans (hn.mono hB.size)
  have HQ := Lib.hid hQ
  clear hn hm Qt f1 hF hQ
  go_wp2_with fail
  refine (cF'.out _).mono ?_
  rintro e w4 ⟨v4, rfl, o4, hn⟩
  obtain ⟨A4, c4, rfl, _⟩ := o4.slice_
  have HQ := Lib.hid (HQ.out.below hn)
  have Q4 := Lib.hid o4.rd
  have hB := hB.trans (hn.mono hB.size)
  clear hn o4
  go_wp2_with fail
  refine (cA'.out _ _ _ _ _ HQ.out.rd Q4.out).mono ?_
  rintro e w5 ⟨v5, rfl, o5, hn⟩
  replace o5 : Own .u32 w5 w4.heap.size 206 v5 (dig B32 (q + 1)) := o5
  have HO := Lib.hid (o5.mono hB.size)
  have hB := hB.trans (hn.mono hB.size)
  clear hn o5 Q4 HQ
  go_wp2
  go_ret
  exact ⟨_, rfl, HO.out, hB⟩
set_option maxRecDepth 100000 in
set_option maxHeartbeats 2000000 in
theorem nearest_even (N D : Nat) (v : Value) (w : World) (hN : N < B32 ^ 255) (hD : D < B32 ^ 255) (hD0 : 0 < D) (h : 2 * (N % D) = D) (hq : N / D % 2 = 0) (hf : Frac w v N D) :
    Calls Tryz.prog 160 #[v] w (Makes .u32 206 w (dig B32 (N / D))) := by
  obtain ⟨Ao, Au, co, cu, rfl, h1, h2, h3, h4⟩ := hf
  have hpow : B32 ^ 255 * 2 ≤ B32 ^ 256 := by rw [Nat.pow_succ]; exact Nat.mul_le_mul_left _ (by decide)
  have hN2 : N < B32 ^ 256 := by omega
  have hD2 : D < B32 ^ 256 := by omega
  have hq1 : N / D ≤ N := Nat.div_le_self N D
  have hr1 : N % D < D := Nat.mod_lt N hD0
  have hd0 : dig B32 D ≠ [] := fun e => by have := dig_nil (by decide) e; omega
  have cD := fun (W : World) (a : Rd .u32 W Ao (dig B32 N)) (b : Rd .u32 W Au (dig B32 D)) => div_any Ao Au co cu (dig B32 N) (dig B32 D) W (lim_dig N) (lim_dig D) (len_room hN2) (len_room hD2) h1 a b
  have hdr : divRes (dig B32 N) (dig B32 D) = (dig B32 (N / D), dig B32 (N % D), 0) := by
    rw [divRes, if_pos ⟨vld_dig hN2, vld_dig hD2⟩, if_neg hd0, dig_vl (by decide), dig_vl (by decide)]
  rw [hdr] at cD
  obtain ⟨q, hqe⟩ : ∃ q, N / D = q := ⟨_, rfl⟩
  obtain ⟨r, hre⟩ : ∃ r, N % D = r := ⟨_, rfl⟩
  rw [hqe, hre] at cD
  rw [hqe] at hq1
  rw [hre] at hr1
  rw [hre] at h
  rw [hqe] at hq
  rw [hqe]
  have cS := fun (A1 : Option Addr) (c1 : Nat) (W : World) (a : Rd .u32 W A1 (dig B32 r)) => shl_any A1 c1 (dig B32 r) ((1 : Nat) : Int) W (lim_dig r) (len_room (by omega)) (by omega) (by omega) a
  rw [shl_fit (by rw [Nat.pow_one]; omega), Nat.pow_one] at cS
  obtain ⟨t, ht⟩ : ∃ t, r * 2 = t := ⟨_, rfl⟩
  have ht2 : t < B32 ^ 256 := by omega
  rw [ht] at cS
  have cC := fun (A1 : Option Addr) (c1 : Nat) (W : World) (a : Rd .u32 W A1 (dig B32 t)) (b : Rd .u32 W Au (dig B32 D)) => cmp_any A1 Au c1 cu (dig B32 t) (dig B32 D) W (dig_norm (by decide) t) (dig_norm (by decide) D) (Nat.le_trans (len_dig ht2) (by decide)) (Nat.le_trans (len_dig hD2) (by decide)) a b
  rw [dig_vl (by decide), dig_vl (by decide), cmpZ_eq (by omega)] at cC
  have cW := fun (A1 : Option Addr) (c1 : Nat) (W : World) (hc1 : (dig B32 q).length ≤ c1) (hc2 : c1 ≤ maxLen) (a : Rd .u32 W A1 (dig B32 q)) => word_any A1 c1 (dig B32 q) W (lim_dig q) (len_room (by omega)) hc1 hc2 a
  have hod : low64 (dig B32 q) % 2 = 0 := by rw [odd_low]; exact hq
  obtain ⟨l, hl⟩ : ∃ l, low64 (dig B32 q) = l := ⟨_, rfl⟩
  rw [hl] at cW hod
  have cD' := Lib.hid cD
  have cS' := Lib.hid cS
  have cC' := Lib.hid cC
  have cW' := Lib.hid cW
  have hbA := (Below.refl w.heap.size w).alloc (Nat.le_refl _) (.cells #[.slice Ao (dig B32 N).length co, .slice Au (dig B32 D).length cu] 193)
  have hFh := heap_alloc_new w (.cells #[.slice Ao (dig B32 N).length co, .slice Au (dig B32 D).length cu] 193)
  have hlt : w.heap.size < (w.alloc (.cells #[.slice Ao (dig B32 N).length co, .slice Au (dig B32 D).length cu] 193)).heap.size := by simp
  have f0 := cell_of_row _ _ 0 _ _ _ hFh
  have f1 := cell_of_row _ _ 1 _ _ _ hFh
  simp only [List.getElem?_toArray, List.getElem?_cons_zero, List.getElem?_cons_succ] at f0 f1
  clear cD cS cC cW hpow hN2 hD2 hq1 hr1 hd0 hdr hqe hre h ht ht2 hN hD hD0 hFh hl hq
  go_enter Tryz.func160, Tryz.ntmps160
  go_wp2_with fail
  refine (cD'.out _ (h3.below hbA) (h4.below hbA)).mono ?_
  rintro e w1 ⟨v1, v2, rfl, o1, o2, _, hn⟩
  replace o1 : Own .u32 w1 _ 206 v1 (dig B32 q) := o1
  replace o2 : Own .u32 w1 _ 206 v2 (dig B32 r) := o2
  obtain ⟨Aq, cq, rfl, hcq1, hcq2⟩ := o1.slice
  obtain ⟨Ar, cr, rfl, _⟩ := o2.slice_
  have f1 := (hn.cell (p := ⟨w.heap.size, 1, none⟩) hlt).trans f1
  have hF : w.heap.size < w1.heap.size := Nat.lt_of_lt_of_le hlt hn.size
  have hQ := o1.mono hbA.size
  have Qr := Lib.hid o2.rd
  have hB := hbA.trans (hn.mono hbA.size)
  clear f0 hlt hn o1 o2 hbA
  go_wp2_with fail
  refine (cS'.out _ _ _ Qr.out).mono ?_
  rintro e w2 ⟨v3, rfl, o3, hn⟩
  replace o3 : Own .u32 w2 _ 206 v3 (dig B32 t) := o3
  obtain ⟨At, ct, rfl, _⟩ := o3.slice_
  have f1 := (hn.cell (p := ⟨w.heap.size, 1, none⟩) hF).trans f1
  have hF := Nat.lt_of_lt_of_le hF hn.size
  have hQ := hQ.below hn
  have Qt := Lib.hid o3.rd
  have hB := hB.trans (hn.mono hB.size)
  clear hn o3 Qr
  go_wp2_with fail
  refine (cC'.out _ _ _ Qt.out (h4.below hB)).mono ?_
  rintro e w3 ⟨rfl, nd, hm⟩
  have hn : Below w2.heap.size w2 w3 := by rw [hm]; exact below_drewN' (Below.refl _ _) nd
  have hQ := hQ.below hn
  have hB := hB.trans (hn.mono hB.size)
  have HQ := Lib.hid hQ
  clear hn hm Qt f1 hF hQ
  go_wp2_with fail
  refine (cW'.out _ _ _ hcq1 hcq2 HQ.out.rd).mono ?_
  rintro e w' ⟨rfl, rfl⟩
  go_wp2
  go_ret
  exact ⟨_, rfl, HQ.out, hB⟩
set_option maxRecDepth 100000 in
set_option maxHeartbeats 2000000 in
theorem nearest_odd (N D : Nat) (v : Value) (w : World) (hN : N < B32 ^ 255) (hD : D < B32 ^ 255) (hD0 : 0 < D) (h : 2 * (N % D) = D) (hq : N / D % 2 = 1) (hf : Frac w v N D) :
    Calls Tryz.prog 160 #[v] w (Makes .u32 206 w (dig B32 (N / D + 1))) := by
  obtain ⟨Ao, Au, co, cu, rfl, h1, h2, h3, h4⟩ := hf
  have hpow : B32 ^ 255 * 2 ≤ B32 ^ 256 := by rw [Nat.pow_succ]; exact Nat.mul_le_mul_left _ (by decide)
  have hN2 : N < B32 ^ 256 := by omega
  have hD2 : D < B32 ^ 256 := by omega
  have hq1 : N / D ≤ N := Nat.div_le_self N D
  have hr1 : N % D < D := Nat.mod_lt N hD0
  have hd0 : dig B32 D ≠ [] := fun e => by have := dig_nil (by decide) e; omega
  have cD := fun (W : World) (a : Rd .u32 W Ao (dig B32 N)) (b : Rd .u32 W Au (dig B32 D)) => div_any Ao Au co cu (dig B32 N) (dig B32 D) W (lim_dig N) (lim_dig D) (len_room hN2) (len_room hD2) h1 a b
  have hdr : divRes (dig B32 N) (dig B32 D) = (dig B32 (N / D), dig B32 (N % D), 0) := by
    rw [divRes, if_pos ⟨vld_dig hN2, vld_dig hD2⟩, if_neg hd0, dig_vl (by decide), dig_vl (by decide)]
  rw [hdr] at cD
  obtain ⟨q, hqe⟩ : ∃ q, N / D = q := ⟨_, rfl⟩
  obtain ⟨r, hre⟩ : ∃ r, N % D = r := ⟨_, rfl⟩
  rw [hqe, hre] at cD
  rw [hqe] at hq1
  rw [hre] at hr1
  rw [hre] at h
  rw [hqe] at hq
  rw [hqe]
  have cS := fun (A1 : Option Addr) (c1 : Nat) (W : World) (a : Rd .u32 W A1 (dig B32 r)) => shl_any A1 c1 (dig B32 r) ((1 : Nat) : Int) W (lim_dig r) (len_room (by omega)) (by omega) (by omega) a
  rw [shl_fit (by rw [Nat.pow_one]; omega), Nat.pow_one] at cS
  obtain ⟨t, ht⟩ : ∃ t, r * 2 = t := ⟨_, rfl⟩
  have ht2 : t < B32 ^ 256 := by omega
  rw [ht] at cS
  have cC := fun (A1 : Option Addr) (c1 : Nat) (W : World) (a : Rd .u32 W A1 (dig B32 t)) (b : Rd .u32 W Au (dig B32 D)) => cmp_any A1 Au c1 cu (dig B32 t) (dig B32 D) W (dig_norm (by decide) t) (dig_norm (by decide) D) (Nat.le_trans (len_dig ht2) (by decide)) (Nat.le_trans (len_dig hD2) (by decide)) a b
  rw [dig_vl (by decide), dig_vl (by decide), cmpZ_eq (by omega)] at cC
  have cW := fun (A1 : Option Addr) (c1 : Nat) (W : World) (hc1 : (dig B32 q).length ≤ c1) (hc2 : c1 ≤ maxLen) (a : Rd .u32 W A1 (dig B32 q)) => word_any A1 c1 (dig B32 q) W (lim_dig q) (len_room (by omega)) hc1 hc2 a
  have hod : low64 (dig B32 q) % 2 = 1 := by rw [odd_low]; exact hq
  obtain ⟨l, hl⟩ : ∃ l, low64 (dig B32 q) = l := ⟨_, rfl⟩
  rw [hl] at cW hod
  have cF := fun (W : World) => from_small 1 W (by omega)
  have cA := fun (A1 A2 : Option Addr) (c1 c2 : Nat) (W : World) (a : Rd .u32 W A1 (dig B32 q)) (b : Rd .u32 W A2 (dig B32 1)) => add_any A1 A2 c1 c2 (dig B32 q) (dig B32 1) W (lim_dig q) (lim_dig 1) (len_room (by omega)) (len_room (by omega)) a b
  have har : res2 (dig B32 q) (dig B32 1) (vl B32 (dig B32 q) + vl B32 (dig B32 1)) = (dig B32 (q + 1), 0) := by
    rw [dig_vl (by decide), dig_vl (by decide)]
    exact res2_ok (vld_dig (by omega)) (vld_dig (by omega)) (by omega)
  rw [har] at cA
  have cD' := Lib.hid cD
  have cS' := Lib.hid cS
  have cC' := Lib.hid cC
  have cW' := Lib.hid cW
  have cF' := Lib.hid cF
  have cA' := Lib.hid cA
  have hbA := (Below.refl w.heap.size w).alloc (Nat.le_refl _) (.cells #[.slice Ao (dig B32 N).length co, .slice Au (dig B32 D).length cu] 193)
  have hFh := heap_alloc_new w (.cells #[.slice Ao (dig B32 N).length co, .slice Au (dig B32 D).length cu] 193)
  have hlt : w.heap.size < (w.alloc (.cells #[.slice Ao (dig B32 N).length co, .slice Au (dig B32 D).length cu] 193)).heap.size := by simp
  have f0 := cell_of_row _ _ 0 _ _ _ hFh
  have f1 := cell_of_row _ _ 1 _ _ _ hFh
  simp only [List.getElem?_toArray, List.getElem?_cons_zero, List.getElem?_cons_succ] at f0 f1
  clear cD cS cC cW cF cA hpow hN2 hD2 hq1 hr1 hd0 hdr hqe hre h ht ht2 hN hD hD0 hFh hl hq har
  go_enter Tryz.func160, Tryz.ntmps160
  go_wp2_with fail
  refine (cD'.out _ (h3.below hbA) (h4.below hbA)).mono ?_
  rintro e w1 ⟨v1, v2, rfl, o1, o2, _, hn⟩
  replace o1 : Own .u32 w1 _ 206 v1 (dig B32 q) := o1
  replace o2 : Own .u32 w1 _ 206 v2 (dig B32 r) := o2
  obtain ⟨Aq, cq, rfl, hcq1, hcq2⟩ := o1.slice
  obtain ⟨Ar, cr, rfl, _⟩ := o2.slice_
  have f1 := (hn.cell (p := ⟨w.heap.size, 1, none⟩) hlt).trans f1
  have hF : w.heap.size < w1.heap.size := Nat.lt_of_lt_of_le hlt hn.size
  have hQ := o1.mono hbA.size
  have Qr := Lib.hid o2.rd
  have hB := hbA.trans (hn.mono hbA.size)
  clear f0 hlt hn o1 o2 hbA
  go_wp2_with fail
  refine (cS'.out _ _ _ Qr.out).mono ?_
  rintro e w2 ⟨v3, rfl, o3, hn⟩
  replace o3 : Own .u32 w2 _ 206 v3 (dig B32 t) := o3
  obtain ⟨At, ct, rfl, _⟩ := o3.slice_
  have f1 := (hn.cell (p := ⟨w.heap.size, 1, none⟩) hF).trans f1
  have hF := Nat.lt_of_lt_of_le hF hn.size
  have hQ := hQ.below hn
  have Qt := Lib.hid o3.rd
  have hB := hB.trans (hn.mono hB.size)
  clear hn o3 Qr
  go_wp2_with fail
  refine (cC'.out _ _ _ Qt.out (h4.below hB)).mono ?_
  rintro e w3 ⟨rfl, nd, hm⟩
  have hn : Below w2.heap.size w2 w3 := by rw [hm]; exact below_drewN' (Below.refl _ _) nd
  have hQ := hQ.below hn
  have hB := hB.trans (hn.mono hB.size)
  have HQ := Lib.hid hQ
  clear hn hm Qt f1 hF hQ
  go_wp2_with fail
  refine (cW'.out _ _ _ hcq1 hcq2 HQ.out.rd).mono ?_
  rintro e w' ⟨rfl, rfl⟩
  go_wp2_with fail
  refine (cF'.out _).mono ?_
  rintro e w4 ⟨v4, rfl, o4, hn⟩
  obtain ⟨A4, c4, rfl, _⟩ := o4.slice_
  have HQ := Lib.hid (HQ.out.below hn)
  have Q4 := Lib.hid o4.rd
  have hB := hB.trans (hn.mono hB.size)
  clear hn o4
  go_wp2_with fail
  refine (cA'.out _ _ _ _ _ HQ.out.rd Q4.out).mono ?_
  rintro e w5 ⟨v5, rfl, o5, hn⟩
  replace o5 : Own .u32 w5 w4.heap.size 206 v5 (dig B32 (q + 1)) := o5
  have HO := Lib.hid (o5.mono hB.size)
  have hB := hB.trans (hn.mono hB.size)
  clear hn o5 Q4 HQ
  go_wp2
  go_ret
  exact ⟨_, rfl, HO.out, hB⟩
theorem nearest_any (N D : Nat) (v : Value) (w : World) (hN : N < B32 ^ 255) (hD : D < B32 ^ 255) (hD0 : 0 < D) (hf : Frac w v N D) :
    Calls Tryz.prog 160 #[v] w (Makes .u32 206 w (dig B32 (rnd N D))) := by
  unfold rnd
  rcases Nat.lt_trichotomy (2 * (N % D)) D with h | h | h
  · rw [if_neg (by omega)]; exact nearest_lt N D v w hN hD hD0 h hf
  · rcases Nat.mod_two_eq_zero_or_one (N / D) with hq | hq
    · rw [if_neg (by omega)]; exact nearest_even N D v w hN hD hD0 h hq hf
    · rw [if_pos (.inr ⟨h, hq⟩)]; exact nearest_odd N D v w hN hD hD0 h hq hf
  · rw [if_pos (.inl h)]; exact nearest_gt N D v w hN hD hD0 h hf
end Go.Proofs.YtddfigbpckhfbaaGreatDoor

namespace Go.Proofs.YtddfigbpckhfbaaGreatDoor
open Go.RowKit Go.Lib

set_option maxRecDepth 100000 in
set_option maxHeartbeats 1000000 in
theorem digits_any (N D : Nat) (v : Value) (w : World) (hN : N < B32 ^ 255) (hD : D < B32 ^ 255) (hD0 : 0 < D) (hf : Frac w v N D) :
    Calls Tryz.prog 247 #[v] w fun e w' => e = .returned (.string ⟨(decs (rnd N D)).toArray⟩) ∧ Below w.heap.size w w' := by
  have hr : rnd N D < B32 ^ 256 := by
    have h1 := rnd_le N D
    have h2 := Nat.div_le_self N D
    have hpow : B32 ^ 255 * 2 ≤ B32 ^ 256 := by rw [Nat.pow_succ]; exact Nat.mul_le_mul_left _ (by decide)
    omega
  have CN := Lib.hid (fun (W : World) (h : Frac W v N D) => nearest_any N D v W hN hD hD0 h)
  have cT := fun (A : Option Addr) (c : Nat) (W : World) (hA : A = none → c = 0) (h : Rd .u32 W A (dig B32 (rnd N D))) => text_any A c (dig B32 (rnd N D)) W (lim_dig _) (len_room hr) hA h
  have htr : textRes (dig B32 (rnd N D)) = (decs (rnd N D), 0) := by rw [textRes, if_pos (vld_dig hr), dig_vl (by decide)]
  rw [htr] at cT
  have CT := Lib.hid cT
  obtain ⟨Ao, Au, co, cu, rfl, h1, h2, h3, h4⟩ := hf
  have hbA := (Below.refl w.heap.size w).alloc (Nat.le_refl _) (.cells #[.slice Ao (dig B32 N).length co, .slice Au (dig B32 D).length cu] 193)
  have hFh := heap_alloc_new w (.cells #[.slice Ao (dig B32 N).length co, .slice Au (dig B32 D).length cu] 193)
  have HF := Lib.hid (show Frac (w.alloc (.cells #[.slice Ao (dig B32 N).length co, .slice Au (dig B32 D).length cu] 193)) (.agg #[.slice Ao (dig B32 N).length co, .slice Au (dig B32 D).length cu]) N D from ⟨Ao, Au, co, cu, rfl, h1, h2, h3.below hbA, h4.below hbA⟩)
  have f0 := cell_of_row _ _ 0 _ _ _ hFh
  have f1 := cell_of_row _ _ 1 _ _ _ hFh
  simp only [List.getElem?_toArray, List.getElem?_cons_zero, List.getElem?_cons_succ] at f0 f1
  clear cT htr hr hN hD hD0 h1 h2 h3 h4 hFh
  go_enter Tryz.func247, Tryz.ntmps247
  go_wp2_with fail
  refine (CN.out _ HF.out).mono ?_
  rintro e w1 ⟨v1, rfl, hO, hn⟩
  obtain ⟨A1, c1, rfl, e1⟩ := hO.slice_
  have Q := Lib.hid hO.rd
  have hB := hbA.trans (hn.mono hbA.size)
  clear hn hO f0 f1 hbA
  go_wp2_with fail
  refine (CT.out _ _ _ e1 Q.out).mono ?_
  rintro e w2 ⟨rfl, hn⟩
  have hB := hB.trans (hn.mono hB.size)
  clear hn
  go_wp2
  go_ret
  exact ⟨rfl, hB⟩

theorem repeat_zero (k : Nat) : Lib.repeatL [48] k = List.replicate k (48 : UInt8) := by
  induction k with
  | zero => rfl
  | succ k ih =>
    show [48] ++ Lib.repeatL [48] k = _
    rw [ih, List.replicate_succ]
    rfl
theorem pv_zeros (k : Nat) : pv (List.replicate k (48 : UInt8)) = 0 := by
  induction k with
  | zero => rfl
  | succ k ih => rw [List.replicate_succ, pv_cons, ih]; simp
theorem pv_ten (k : Nat) : pv (49 :: List.replicate k (48 : UInt8)) = 10 ^ k := by
  rw [pv_cons, pv_zeros, List.length_replicate]
  show (49 - 48) * 10 ^ k + 0 = 10 ^ k
  omega
/-- A one and noughts. -/
def tenB (k : Nat) : ByteArray := ⟨#[49]⟩ ++ ⟨(Lib.repeatL [48] k).toArray⟩
theorem tenB_list (k : Nat) : (tenB k).data.toList = 49 :: List.replicate k (48 : UInt8) := by
  unfold tenB
  rw [ByteArray.data_append, Array.toList_append, repeat_zero]
  rfl
theorem tenB_size (k : Nat) : (tenB k).size = k + 1 := by rw [← ba_len, tenB_list]; simp
theorem tenB_parse {k : Nat} (h : 10 ^ k < B32 ^ 256) : parseRes (tenB k) = (dig B32 (10 ^ k), 0) := by
  have hd : isDec (tenB k) = true := isDec_iff.2 ⟨by rw [tenB_size]; omega, by
    rw [tenB_list]
    intro c hc
    rcases List.mem_cons.1 hc with rfl | hc
    · decide
    · rw [(List.mem_replicate.1 hc).2]; decide⟩
  rw [parseRes, if_pos hd, tenB_list, pv_ten, natRes_ok (len_dig h)]
set_option maxRecDepth 100000 in
set_option maxHeartbeats 1000000 in
theorem ten_any (k : Nat) (w : World) (hk : k ≤ 2400) (h : 10 ^ k < B32 ^ 256) : Calls Tryz.prog 202 #[.int .i64 k] w (Makes .u32 206 w (dig B32 (10 ^ k))) := by
  have cR := Tryz.strings_Repeat ⟨#[48]⟩ k w (by omega) (by show 1 * k ≤ _; omega)
  have cP := fun (W : World) => parse_any (tenB k) W (by rw [tenB_size]; omega)
  rw [tenB_parse h] at cP
  have hzs : (⟨(Lib.repeatL [48] k).toArray⟩ : ByteArray).size ≤ 2400 := by rw [← ba_len]; show (Lib.repeatL [48] k).length ≤ _; rw [repeat_zero]; simp; omega
  have HT := Lib.hid (show (⟨#[49]⟩ : ByteArray) ++ ⟨(Lib.repeatL [48] k).toArray⟩ = tenB k from rfl)
  replace cR : Calls Tryz.prog 236 #[.string ⟨#[48]⟩, .int .i64 k] w fun e w' => e = .returned (.string ⟨(Lib.repeatL [48] k).toArray⟩) ∧ Below w.heap.size w w' := cR
  obtain ⟨Z, hZ⟩ : ∃ Z : ByteArray, ⟨(Lib.repeatL [48] k).toArray⟩ = Z := ⟨_, rfl⟩
  rw [hZ] at cR HT hzs
  obtain ⟨M, hM⟩ : ∃ M, 10 ^ k = M := ⟨_, rfl⟩
  rw [hM] at cP
  rw [hM]
  have CR := Lib.hid cR
  have CP := Lib.hid cP
  clear cR cP hZ hM h
  go_enter Tryz.func202, Tryz.ntmps202
  go_wp2_with fail
  refine CR.out.mono ?_
  rintro e w1 ⟨rfl, hB⟩
  have ht := HT.out
  go_wp2_with fail
  refine (CP.out _).mono ?_
  rintro e w2 ⟨v2, rfl, hO, hn⟩
  replace hO : Own .u32 w2 w1.heap.size 206 v2 (dig B32 M) := hO
  have HO := Lib.hid (hO.mono hB.size)
  have hB := hB.trans (hn.mono hB.size)
  clear hn hO ht
  go_wp2
  go_ret
  exact ⟨_, rfl, HO.out, hB⟩
end Go.Proofs.YtddfigbpckhfbaaGreatDoor

namespace Go.Proofs.YtddfigbpckhfbaaGreatDoor
open Go.RowKit Go.Lib

theorem mul_fit {N M : Nat} (hN : N < B32 ^ 256) (hM : M < B32 ^ 256) (h : N * M < B32 ^ 256) : res2 (dig B32 N) (dig B32 M) (vl B32 (dig B32 N) * vl B32 (dig B32 M)) = (dig B32 (N * M), 0) := by
  rw [dig_vl (by decide), dig_vl (by decide)]
  exact res2_ok (vld_dig hN) (vld_dig hM) h
/-- A block of two cells that is there. -/
structure Two (W : World) (g : Nat) (a b : Value) (t : TypeId) : Prop where
  row : W.heap[g]? = some (.cells #[a, b] t (0, 0))
theorem Two.facts {W : World} {g : Nat} {a b : Value} {t : TypeId} (h : Two W g a b t) : W.cell? ⟨g, 0, none⟩ = some a ∧ W.cell? ⟨g, 1, none⟩ = some b ∧ W.frozen? ⟨g, 0, none⟩ = false ∧ W.frozen? ⟨g, 1, none⟩ = false ∧ g < W.heap.size := by
  have h0 := cell_of_row W _ 0 _ _ _ h.row
  have h1 := cell_of_row W _ 1 _ _ _ h.row
  simp only [List.getElem?_toArray, List.getElem?_cons_zero, List.getElem?_cons_succ] at h0 h1
  exact ⟨h0, h1, frozen_of_row W _ 0 _ _ h.row, frozen_of_row W _ 1 _ _ h.row, (Array.getElem?_eq_some_iff.1 h.row).1⟩
theorem Two.below {W W' : World} {g : Nat} {a b : Value} {t : TypeId} (h : Two W g a b t) (hb : Below W.heap.size W W') : Two W' g a b t := ⟨(hb.block g (Array.getElem?_eq_some_iff.1 h.row).1).trans h.row⟩
theorem Two.new (w : World) (a b : Value) (t : TypeId) : Two (w.alloc (.cells #[a, b] t)) w.heap.size a b t := ⟨heap_alloc_new w _⟩
theorem Two.alloc {W : World} {g : Nat} {a b : Value} {t : TypeId} (h : Two W g a b t) (o : Obj) : Two (W.alloc o) g a b t := ⟨(Below.heap_alloc W o g (Array.getElem?_eq_some_iff.1 h.row).1).trans h.row⟩

set_option maxRecDepth 100000 in
set_option maxHeartbeats 4000000 in
theorem timesTen_up (N D k : Nat) (v : Value) (w : World) (hk : k ≤ 2400) (h10 : 10 ^ k < B32 ^ 256) (hN0 : N < B32 ^ 256) (hN : N * 10 ^ k < B32 ^ 256) (hf : Frac w v N D) :
    Calls Tryz.prog 157 #[v, .int .i64 k] w fun e w' => (∃ v', e = .returned v' ∧ Frac w' v' (N * 10 ^ k) D) ∧ Below w.heap.size w w' := by
  obtain ⟨Ao, Au, co, cu, rfl, h1, h2, h3, h4⟩ := hf
  have cT := fun (W : World) => ten_any k W hk h10
  have cM := fun (A2 : Option Addr) (c2 : Nat) (W : World) (a : Rd .u32 W Ao (dig B32 N)) (b : Rd .u32 W A2 (dig B32 (10 ^ k))) => mul_any Ao A2 co c2 (dig B32 N) (dig B32 (10 ^ k)) W (lim_dig _) (lim_dig _) (len_room hN0) (len_room h10) a b
  rw [mul_fit hN0 h10 hN] at cM
  obtain ⟨M, hM⟩ : ∃ M, N * 10 ^ k = M := ⟨_, rfl⟩
  rw [hM] at cM
  rw [hM]
  obtain ⟨T, hT⟩ : ∃ T, 10 ^ k = T := ⟨_, rfl⟩
  rw [hT] at cT cM
  have CT := Lib.hid cT
  have CM := Lib.hid cM
  obtain ⟨n, hn⟩ : ∃ n, (dig B32 N).length = n := ⟨_, rfl⟩
  rw [hn] at CM
  rw [hn]
  have HX := Lib.hid h4
  have HA := Lib.hid h3
  have hbA := ((Below.refl w.heap.size w).alloc (Nat.le_refl _) (.cells #[.slice Ao n co, .slice Au (dig B32 D).length cu] 193)).alloc (by simp) (.cells #[.slice none 0 0, .slice none 0 0] 193)
  have tF := (Two.new w (.slice Ao n co) (.slice Au (dig B32 D).length cu) 193).alloc (.cells #[.slice none 0 0, .slice none 0 0] 193)
  have tR := Two.new (w.alloc (.cells #[.slice Ao n co, .slice Au (dig B32 D).length cu] 193)) (.slice none 0 0) (.slice none 0 0) 193
  rw [World.size_alloc] at tR
  have hsz : ((w.alloc (.cells #[.slice Ao n co, .slice Au (dig B32 D).length cu] 193)).alloc (.cells #[.slice none 0 0, .slice none 0 0] 193)).heap.size = w.heap.size + 2 := by rw [World.size_alloc, World.size_alloc]
  obtain ⟨W2, hW2⟩ : ∃ W2, (w.alloc (.cells #[.slice Ao n co, .slice Au (dig B32 D).length cu] 193)).alloc (.cells #[.slice none 0 0, .slice none 0 0] 193) = W2 := ⟨_, rfl⟩
  rw [hW2] at hbA tF tR hsz
  have HW2 := Lib.hid hW2
  have HSZ := Lib.hid hsz
  obtain ⟨f0, f1, z0, z1, fl⟩ := tF.facts
  have HTF := Lib.hid tF
  have HTR := Lib.hid tR
  clear cT cM hN hN0 h10 hM hT hn h3 h4 tF tR hW2 hsz fl
  go_enter Tryz.func157, Tryz.ntmps157
  go_wp2
  rw [HW2.out]
  have hR := Below.refl W2.heap.size W2
  go_region_with (first
    | (go_at_call 202; (with_reducible refine (CT.out _).mono ?_); rintro e W3 ⟨v3, rfl, o3, n3⟩; obtain ⟨A3, c3, rfl, _⟩ := o3.slice_; have b3 : Below W2.heap.size W2 W3 := hR.drew.trans n3; have Q3 := Lib.hid o3.rd; obtain ⟨f0, f1, z0, z1, _⟩ := (HTF.out.below b3).facts; clear n3 o3)
    | (go_at_call 201; (with_reducible refine (CM.out _ _ _ (HA.out.below (hbA.trans (b3.mono hbA.size))) Q3.out).mono ?_); rintro e W4 ⟨v4, rfl, o4, n4⟩; replace o4 : Own .u32 W4 W3.heap.size 206 v4 (dig B32 M) := o4; have o4 := o4.mono b3.size; obtain ⟨Az, cz, rfl, ez⟩ := o4.slice_; have b4 : Below W2.heap.size W2 W4 := b3.trans (n4.mono b3.size); have HO := Lib.hid o4.rd; have HGE := Lib.hid (own_ge o4); obtain ⟨f0, f1, z0, z1, _⟩ := (HTF.out.below b4).facts; obtain ⟨r0, r1, y0, y1, _⟩ := (HTR.out.below b4).facts; clear n4 o4))
  all_goals
    have hsz4 : w.heap.size + 2 ≤ W4.heap.size := by have := b4.size; have := HSZ.out; omega
    go_wp2
    have hge := HGE.out
    rw [HSZ.out] at hge
    have hBw := hbA.trans (b4.mono hbA.size)
    have hBz := ((hBw.setCell (p := ⟨w.heap.size, 0, none⟩) (Nat.le_refl _) (.slice Az (dig B32 M).length cz)).setCell (p := ⟨w.heap.size + 1, 0, none⟩) (Nat.le_succ _) (.slice Az (dig B32 M).length cz)).setCell (p := ⟨w.heap.size + 1, 1, none⟩) (Nat.le_succ _) (.slice Au (dig B32 D).length cu)
    exact bodyPost_ret (v := .agg #[.slice Az (dig B32 M).length cz, .slice Au (dig B32 D).length cu]) (by simp [results, Tryz.results157, go_sem, r0, r1]) rfl ⟨⟨_, rfl, Az, Au, cz, cu, rfl, ez, h2, (((HO.out.far (off_ge hge (by omega)) _).far (off_ge hge (by omega)) _).far (off_ge hge (by omega)) _), HX.out.below hBz⟩, hBz⟩
set_option maxRecDepth 100000 in
set_option maxHeartbeats 4000000 in
theorem timesTen_down (N D k : Nat) (v : Value) (w : World) (hk0 : 0 < k) (hk : k ≤ 2400) (h10 : 10 ^ k < B32 ^ 256) (hN0 : D < B32 ^ 256) (hN : D * 10 ^ k < B32 ^ 256) (hf : Frac w v N D) :
    Calls Tryz.prog 157 #[v, .int .i64 (-(k : Int))] w fun e w' => (∃ v', e = .returned v' ∧ Frac w' v' N (D * 10 ^ k)) ∧ Below w.heap.size w w' := by
  obtain ⟨Ao, Au, co, cu, rfl, h1, h2, h3, h4⟩ := hf
  have cT := fun (W : World) => ten_any k W hk h10
  have cM := fun (A2 : Option Addr) (c2 : Nat) (W : World) (a : Rd .u32 W Au (dig B32 D)) (b : Rd .u32 W A2 (dig B32 (10 ^ k))) => mul_any Au A2 cu c2 (dig B32 D) (dig B32 (10 ^ k)) W (lim_dig _) (lim_dig _) (len_room hN0) (len_room h10) a b
  rw [mul_fit hN0 h10 hN] at cM
  obtain ⟨M, hM⟩ : ∃ M, D * 10 ^ k = M := ⟨_, rfl⟩
  rw [hM] at cM
  rw [hM]
  obtain ⟨T, hT⟩ : ∃ T, 10 ^ k = T := ⟨_, rfl⟩
  rw [hT] at cT cM
  have CT := Lib.hid cT
  have CM := Lib.hid cM
  obtain ⟨n, hn⟩ : ∃ n, (dig B32 D).length = n := ⟨_, rfl⟩
  rw [hn] at CM
  rw [hn]
  have HX := Lib.hid h3
  have HA := Lib.hid h4
  have hkn : ¬ (0 : Int) ≤ -(k : Int) := by omega
  have hkn2 : -(k : Int) < 0 := by omega
  have hkw : IntKind.i64.wrap (-(-(k : Int))) = (k : Int) := by rw [Int.neg_neg]; exact IntWalk.i64_in _ (by omega)
  have hkw2 : IntKind.i64.wrap (k : Int) = (k : Int) := IntWalk.i64_in _ (by omega)
  have hbA := ((Below.refl w.heap.size w).alloc (Nat.le_refl _) (.cells #[.slice Ao (dig B32 N).length co, .slice Au n cu] 193)).alloc (by simp) (.cells #[.slice none 0 0, .slice none 0 0] 193)
  have tF := (Two.new w (.slice Ao (dig B32 N).length co) (.slice Au n cu) 193).alloc (.cells #[.slice none 0 0, .slice none 0 0] 193)
  have tR := Two.new (w.alloc (.cells #[.slice Ao (dig B32 N).length co, .slice Au n cu] 193)) (.slice none 0 0) (.slice none 0 0) 193
  rw [World.size_alloc] at tR
  have hsz : ((w.alloc (.cells #[.slice Ao (dig B32 N).length co, .slice Au n cu] 193)).alloc (.cells #[.slice none 0 0, .slice none 0 0] 193)).heap.size = w.heap.size + 2 := by rw [World.size_alloc, World.size_alloc]
  obtain ⟨W2, hW2⟩ : ∃ W2, (w.alloc (.cells #[.slice Ao (dig B32 N).length co, .slice Au n cu] 193)).alloc (.cells #[.slice none 0 0, .slice none 0 0] 193) = W2 := ⟨_, rfl⟩
  rw [hW2] at hbA tF tR hsz
  have HW2 := Lib.hid hW2
  have HSZ := Lib.hid hsz
  obtain ⟨f0, f1, z0, z1, fl⟩ := tF.facts
  have HTF := Lib.hid tF
  have HTR := Lib.hid tR
  clear cT cM hN hN0 h10 hM hT hn h3 h4 tF tR hW2 hsz fl
  go_enter Tryz.func157, Tryz.ntmps157
  go_wp2
  rw [HW2.out]
  have hR := Below.refl W2.heap.size W2
  go_region_with (first
    | (go_at_call 202; (with_reducible refine (CT.out _).mono ?_); rintro e W3 ⟨v3, rfl, o3, n3⟩; obtain ⟨A3, c3, rfl, _⟩ := o3.slice_; have b3 : Below W2.heap.size W2 W3 := hR.drew.trans n3; have Q3 := Lib.hid o3.rd; obtain ⟨f0, f1, z0, z1, _⟩ := (HTF.out.below b3).facts; clear n3 o3)
    | (go_at_call 201; (with_reducible refine (CM.out _ _ _ (HA.out.below (hbA.trans (b3.mono hbA.size))) Q3.out).mono ?_); rintro e W4 ⟨v4, rfl, o4, n4⟩; replace o4 : Own .u32 W4 W3.heap.size 206 v4 (dig B32 M) := o4; have o4 := o4.mono b3.size; obtain ⟨Az, cz, rfl, ez⟩ := o4.slice_; have b4 : Below W2.heap.size W2 W4 := b3.trans (n4.mono b3.size); have HO := Lib.hid o4.rd; have HGE := Lib.hid (own_ge o4); obtain ⟨f0, f1, z0, z1, _⟩ := (HTF.out.below b4).facts; obtain ⟨r0, r1, y0, y1, _⟩ := (HTR.out.below b4).facts; clear n4 o4))
  all_goals
    have hsz4 : w.heap.size + 2 ≤ W4.heap.size := by have := b4.size; have := HSZ.out; omega
    go_wp2
    have hge := HGE.out
    rw [HSZ.out] at hge
    have hBw := hbA.trans (b4.mono hbA.size)
    have hBz := ((hBw.setCell (p := ⟨w.heap.size, 1, none⟩) (Nat.le_refl _) (.slice Az (dig B32 M).length cz)).setCell (p := ⟨w.heap.size + 1, 0, none⟩) (Nat.le_succ _) (.slice Ao (dig B32 N).length co)).setCell (p := ⟨w.heap.size + 1, 1, none⟩) (Nat.le_succ _) (.slice Az (dig B32 M).length cz)
    exact bodyPost_ret (v := .agg #[.slice Ao (dig B32 N).length co, .slice Az (dig B32 M).length cz]) (by simp [results, Tryz.results157, go_sem, r0, r1]) rfl ⟨⟨_, rfl, Ao, Az, co, cz, rfl, h1, ez, HX.out.below hBz, (((HO.out.far (off_ge hge (by omega)) _).far (off_ge hge (by omega)) _).far (off_ge hge (by omega)) _)⟩, hBz⟩
end Go.Proofs.YtddfigbpckhfbaaGreatDoor

namespace Go.Proofs.YtddfigbpckhfbaaGreatDoor
open Go.RowKit Go.Lib

/-- The bits without the sign. -/
def mag (b : Nat) : Nat := b % 9223372036854775808
theorem run_f64bits (b : Nat) (W : World) : (callFunc 40 #[.float .f64 b]).run Tryz.prog W = .ok (.value (.int .u64 b)) W := by
  rw [run_callFunc_extern Tryz.func40 (by kernel_rfl) (by kernel_rfl) (by kernel_rfl) (e := Extern.MathFloatBits.float64bits) (by kernel_rfl)]
  rfl
theorem run_f64from (n : Nat) (W : World) : (callFunc 10 #[.int .u64 n]).run Tryz.prog W = .ok (.value (.float .f64 n)) W := by
  rw [run_callFunc_extern Tryz.func10 (by kernel_rfl) (by kernel_rfl) (by kernel_rfl) (e := Extern.MathFloatBits.float64frombits) (by kernel_rfl)]
  rfl
theorem mag_bits (b : Nat) (hb : b < 18446744073709551616) : bits .andNot .u64 (b : Int) 9223372036854775808 = ((mag b : Nat) : Int) := by
  have h := u64_andNot_nat b 9223372036854775808 hb (by omega)
  rw [show (18446744073709551615 : Nat) - 9223372036854775808 = 2 ^ 63 - 1 by decide, Nat.and_two_pow_sub_one_eq_mod] at h
  exact h
set_option maxRecDepth 100000 in
theorem abs_any (b : Nat) (w : World) (hb : b < 18446744073709551616) : Calls Tryz.prog 39 #[.float .f64 b] w fun e w' => e = .returned (.float .f64 (mag b)) ∧ w = w' := by
  have h1 := fun W => run_f64bits b W
  have h2 := fun W => run_f64from (mag b) W
  have h3 := mag_bits b hb
  go_enter Tryz.func39, Tryz.ntmps39
  go_wp2
  go_ret
  exact ⟨rfl, rfl⟩
def nanB (b : Nat) : Bool := FloatKind.f64.format.order b b != some .eq
def infB (b : Nat) : Bool := FloatKind.f64.format.order (mag b) 9218868437227405311 == some .gt
theorem isNaN_any (b : Nat) (w : World) : Calls Tryz.prog 127 #[.float .f64 b] w fun e w' => e = .returned (.bool (nanB b)) ∧ w = w' := by
  have h : (FloatKind.f64.format.order b b != some .eq) = nanB b := rfl
  go_enter Tryz.func127, Tryz.ntmps127
  go_wp2
  go_ret
  exact ⟨rfl, rfl⟩
set_option maxRecDepth 100000 in
theorem isInf_any (b : Nat) (w : World) (hb : b < 18446744073709551616) : Calls Tryz.prog 126 #[.float .f64 b, .int .i64 0] w fun e w' => e = .returned (.bool (infB b)) ∧ w = w' := by
  have CA := Lib.hid (abs_any b w hb)
  have h : (FloatKind.f64.format.order (mag b) 9218868437227405311 == some .gt) = infB b := rfl
  go_enter Tryz.func126, Tryz.ntmps126
  go_wp2_with fail
  refine CA.out.mono ?_
  rintro e w' ⟨rfl, rfl⟩
  go_wp2
  go_ret
  exact ⟨rfl, rfl⟩
end Go.Proofs.YtddfigbpckhfbaaGreatDoor
