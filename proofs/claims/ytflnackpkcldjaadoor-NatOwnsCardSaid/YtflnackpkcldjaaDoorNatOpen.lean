/- A slice of limbs that came in, opened and shut. -/
import Derived.OpenShut
import Derived.ChangeShapes
import Derived.WideShapes
import Derived.Test.YtflnackpkcldjaaDoorNatO
namespace Go.Proofs.YtflnackpkcldjaaDoor
open Go.RowKit Go.ChangeShapes Go.WideShapes

theorem cells_u32 : Tryd.prog.cellsOf 47 = 1 := by kernel_rfl
set_option maxRecDepth 100000 in
theorem open_u32s {H : Type} {enc : TypeId × Value → H} {W : World} {v : Value} {d : DataW H} {p : List MemPlace} {base : Nat} (hv : Value.okWide Tryd.prog W .any base 22 v) (h : DataW.Trod enc Tryd.prog W 0 (fun _ => true) true 22 v d p) :
    ∃ (A : Option Addr) (cap : Nat) (xs : List Nat), v = .slice A xs.length cap ∧ xs.length ≤ cap ∧ cap ≤ maxLen ∧ (A = none → cap = 0) ∧ Lim B32 xs ∧ Rd .u32 W A xs ∧ (∀ W', Below W.heap.size W W' → DataW.Trod enc Tryd.prog W' 0 (fun b => decide (b < W.heap.size)) true 22 (.slice A xs.length cap) d p) ∧
      ((∀ z ∈ DataW.weights Tryd.prog 22 d, z ≤ 140737488351232) → xs.length ≤ 140737488351232) := by
  obtain ⟨a0, len, cap, rfl⟩ := okWide_slice Tryd.underlying22 hv
  obtain ⟨fuel, hf⟩ := h
  rcases open_ints Tryd.underlying22 Tryd.underlying47 cells_u32 hf with ⟨hcs, hx⟩ | ⟨a, len', cap', zs, hcs, _, hl, hm, hz, hx, hcell, hwz⟩
  · simp [Value.cells] at hcs
    obtain ⟨rfl, rfl, rfl⟩ := hcs
    simp only [Prod.mk.injEq] at hx
    obtain ⟨rfl, rfl⟩ := hx
    exact ⟨none, 0, [], rfl, Nat.le_refl _, Nat.zero_le _, fun _ => rfl, lim_nil _, Rd.nil, fun W' _ => shut_slice_nil Tryd.underlying22, fun _ => Nat.zero_le _⟩
  · simp [Value.cells] at hcs
    obtain ⟨rfl, rfl, rfl⟩ := hcs
    simp only [Prod.mk.injEq] at hx
    obtain ⟨rfl, rfl⟩ := hx
    simp only [if_true] at hz
    have hn : ∀ i, (hi : i < zs.length) → ∃ x : Nat, zs[i] = (x : Int) ∧ x < 4294967296 := fun i hi => by
      have := bounds_u32 (hwz zs[i] (List.getElem_mem hi))
      exact ⟨zs[i].toNat, by omega, by omega⟩
    refine ⟨some a, cap, (zs.take len).map Int.toNat, ?_, ?_, hm, (fun e => by cases e), ?_, ?_, fun W' hB => ?_, fun hz2 => ?_⟩
    · rw [List.length_map, List.length_take, Nat.min_eq_left (by omega)]
    · rw [List.length_map, List.length_take]; omega
    · intro x hx2
      obtain ⟨z, hz2, rfl⟩ := List.mem_map.1 hx2
      have := bounds_u32 (hwz z (List.mem_of_mem_take hz2))
      show z.toNat < 4294967296
      omega
    · intro j hj
      rw [List.length_map, List.length_take] at hj
      obtain ⟨b, off, rfl, hat⟩ := ints_at hcell (by omega)
      refine ⟨b, off, rfl, ?_⟩
      rw [hat j (by omega), List.getElem_map, List.getElem_take]
      obtain ⟨x, hx1, hx2⟩ := hn j (by omega)
      have : zs.getD j 0 = zs[j] := by simp [List.getD, show j < zs.length by omega]
      rw [this, hx1]
      rfl
    · have hlen : ((zs.take len).map Int.toNat).length = len := by rw [List.length_map, List.length_take]; omega
      rw [hlen]
      refine ⟨0 + 2, ?_⟩
      have hsp : zs.length = (if (fun b => decide (b < W.heap.size)) a.block = true then cap else len) := by
        by_cases h0 : 0 < zs.length
        · obtain ⟨b, off, rfl, hat⟩ := ints_at hcell h0
          have := World.block_lt_of_cell? W _ (hat 0 h0)
          have h2 : decide (b < W.heap.size) = true := decide_eq_true this
          simp only [h2, if_true]
          exact hz
        · split <;> omega
      refine shut_ints (enc := enc) (P := Tryd.prog) (w := W') (base := 0) (spare := fun b => decide (b < W.heap.size)) (held := true) 0 Tryd.underlying22 Tryd.underlying47 cells_u32 (Nat.zero_le _) hl hm hsp (fun i hi => ?_) hwz
      rw [hB.cell]
      · exact hcell i hi
      · exact World.block_lt_of_cell? W _ (hcell i hi)
    · have hb : Tryd.prog.bytesOf 47 = 4 := by kernel_rfl
      have := hz2 _ (by
        unfold DataW.weights
        rw [Tryd.underlying22]
        exact List.mem_cons_self)
      rw [hb] at this
      simp [lits] at this
      rw [List.length_map, List.length_take]
      omega
end Go.Proofs.YtflnackpkcldjaaDoor
