/- Contracts of layer 2: the bytes turned round; Text. -/
import Derived.RegionTactic
import Derived.ChangeAlike
import Derived.Lib.LazyBuf
import Derived.Lib.BufferRead
import Derived.Test.YtflnackpkcldjaaDoorNatS
import Derived.Test.YtflnackpkcldjaaDoorNatE
namespace Go.Proofs.YtflnackpkcldjaaDoor
open Go.RowKit Go.Lib

theorem info_u8 : (Tryd.prog.info? 5).map (fun i => (i.zero, i.size, i.bytes)) = some (some (.int .u8 0), 1, 1) := by kernel_rfl
/-- Turned round at both ends, k of each. -/
def Turned (xs cur : List Nat) (k : Nat) : Prop := cur.length = xs.length ∧ ∀ j (h : j < xs.length) (h2 : j < cur.length), cur[j] = if j < k ∨ xs.length - k ≤ j then xs[xs.length - 1 - j]'(by omega) else xs[j]
theorem turned_start (xs : List Nat) : Turned xs xs 0 := ⟨rfl, fun j h _ => by rw [if_neg (by omega)]⟩
theorem turned_step {xs cur : List Nat} {k : Nat} (h : Turned xs cur k) (hk : 2 * k + 1 < xs.length) :
    Turned xs ((cur.set k (xs[xs.length - 1 - k]'(by omega))).set (xs.length - 1 - k) (xs[k]'(by omega))) (k + 1) := by
  obtain ⟨h1, h2⟩ := h
  refine ⟨by rw [List.length_set, List.length_set, h1], fun j hj hj2 => ?_⟩
  rw [List.getElem_set, List.getElem_set]
  by_cases e1 : xs.length - 1 - k = j
  · rw [if_pos e1, if_pos (by omega)]
    congr 1
    omega
  · rw [if_neg e1]
    by_cases e2 : k = j
    · rw [if_pos e2, if_pos (by omega)]
      congr 1
      omega
    · rw [if_neg e2, h2 j hj (by omega)]
      by_cases e3 : j < k ∨ xs.length - k ≤ j
      · rw [if_pos e3, if_pos (by omega)]
      · rw [if_neg e3, if_neg (by omega)]
theorem turned_get {xs cur : List Nat} {k : Nat} (h : Turned xs cur k) (hk : 2 * k + 1 < xs.length) : cur[k]'(by have := h.1; omega) = xs[k]'(by omega) ∧ cur[xs.length - 1 - k]'(by have := h.1; omega) = xs[xs.length - 1 - k]'(by omega) := by
  constructor
  · rw [h.2 k (by omega) (by have := h.1; omega), if_neg (by omega)]
  · rw [h.2 (xs.length - 1 - k) (by omega) (by have := h.1; omega), if_neg (by omega)]
theorem turned_end {xs cur : List Nat} {k : Nat} (h : Turned xs cur k) (hk : xs.length ≤ 2 * k + 1) : cur = xs.reverse := by
  apply List.ext_getElem
  · rw [h.1, List.length_reverse]
  · intro j h1 h2
    have hl := h.1
    rw [List.getElem_reverse, h.2 j (by omega) h1]
    by_cases e : j < k ∨ xs.length - k ≤ j
    · rw [if_pos e]
    · rw [if_neg e]
      congr 1
      omega

set_option maxRecDepth 100000 in
set_option maxHeartbeats 2000000 in
theorem reverse_any (g n cap B : Nat) (xs : List Nat) (w : World) (hn : n = xs.length) (hxn : xs.length ≤ 1000000) (hO : Own .u8 w B 5 (.slice (some ⟨g, 0, none⟩) n cap) xs) (hg : B ≤ g) :
    Calls Tryd.prog 45 #[.slice (some ⟨g, 0, none⟩) n cap] w fun e w' => e = .returned (.tuple #[]) ∧ Own .u8 w' B 5 (.slice (some ⟨g, 0, none⟩) n cap) xs.reverse ∧ Below B w w' := by
  have HN := Lib.hid hn
  have hxn2 : n ≤ 1000000 := by omega
  clear hn
  go_enter Tryd.func45, Tryd.ntmps45
  go_wp2
  go_loopw [2, 3] (fun i j wr => ∃ (k : Nat) (cur : List Nat), k ≤ n ∧ i = .int .i64 k ∧ j = .int .i64 ((n : Int) - 1 - (k : Int)) ∧ Turned xs cur k ∧ Own .u8 wr B 5 (.slice (some ⟨g, 0, none⟩) n cap) cur ∧ Below B w wr) (fun i _ _ => n - (RowKit.intOf i).toNat)
  case atStart => exact ⟨0, xs, Nat.zero_le _, rfl, vint (by omega), turned_start xs, hO, Below.refl _ _⟩
  case round =>
    obtain ⟨k, cur, hk, rfl, rfl, hT, hOw, hB⟩ := hrel
    by_cases hlt : 2 * k + 1 < n
    · have hT2 : 2 * k + 1 < xs.length := by rw [← HN.out]; exact hlt
      have hcl : cur.length = n := by rw [hT.1, HN.out]
      obtain ⟨q, hq⟩ : ∃ q : Nat, n - 1 - k = q := ⟨_, rfl⟩
      have hqi : (n : Int) - 1 - (k : Int) = (q : Int) := by omega
      have hkq : k < q := by omega
      have hqn : q < n := by omega
      obtain ⟨t1, t2⟩ := turned_get hT hT2
      have hst := turned_step hT hT2
      have hxq : xs.length - 1 - k = q := by rw [← HN.out]; exact hq
      have c1 := hOw.cell k (by omega)
      have c2 := hOw.cell q (by omega)
      simp only [hxq] at t2 hst
      rw [t1] at c1
      rw [t2] at c2
      obtain ⟨a, ha⟩ : ∃ a, xs[k]'(by omega) = a := ⟨_, rfl⟩
      obtain ⟨b, hb⟩ : ∃ b, xs[q]'(by have := HN.out; omega) = b := ⟨_, rfl⟩
      rw [ha] at c1 hst
      rw [hb] at c2 hst
      have f1 : wr.frozen? ⟨g, k, none⟩ = false := World.ownsRow.frozenAt (hOw.row hcl) k
      have f2 : wr.frozen? ⟨g, q, none⟩ = false := World.ownsRow.frozenAt (hOw.row hcl) q
      have o1 := (hOw.set hcl.symm k b).set (by rw [List.length_set]; exact hcl.symm) q a
      have hBz : Below B w ((wr.setCell ⟨g, k, none⟩ (.int .u8 (b : Nat))).setCell ⟨g, q, none⟩ (.int .u8 (a : Nat))) := (hB.setCell hg _).setCell hg _
      have HST := Lib.hid hst
      have HQ := Lib.hid (show k + q + 1 = n by omega)
      have HO1 := Lib.hid o1
      have h1 : (k : Int) < (q : Int) := by omega
      have h2 : (q : Int) < (n : Int) := by omega
      have h3 : (k : Int) < (n : Int) := by omega
      rw [hqi]
      clear hqi hq hcl t1 t2 hst hxq ha hb o1 hT2 hOw hB hT
      go_wp2
      go_region
      all_goals
        go_wp2
        go_roundw
        case rel => exact ⟨k + 1, _, by omega, by go_num, vint (by have := HQ.out; omega), HST.out, HO1.out, hBz.drew⟩
        case measure => simp [RowKit.intOf]; omega
    · have HE := Lib.hid (turned_end hT (by rw [← HN.out]; omega))
      have hge : ¬ (k : Int) < (n : Int) - 1 - (k : Int) := by omega
      rw [HE.out] at hOw
      have HO := Lib.hid hOw
      clear hOw hT
      go_wp2
      go_end0
      exact ⟨rfl, HO.out, hB⟩
end Go.Proofs.YtflnackpkcldjaaDoor
