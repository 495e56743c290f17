/- Contracts of layer 11's laws: values made of numbers and strings; how long all strings are. -/
import Derived.Deep.RegionHeldLaw
import Derived.Deep.AppendLies
import Derived.Test.YtddfigbpckhfbaaGreatDoorPPrfR
import Derived.Test.YtddfigbpckhfbaaGreatDoorQpt1
import Derived.Test.YtddfigbpckhfbaaGreatDoorQpt2
import Derived.Test.YtddfigbpckhfbaaGreatDoorQpt3
import Derived.Test.YtddfigbpckhfbaaGreatDoorQpt4
import Derived.Test.YtddfigbpckhfbaaGreatDoorQpt5
import Derived.Test.YtddfigbpckhfbaaGreatDoorQpt6
import Derived.Test.YtddfigbpckhfbaaGreatDoorQpt7
import Derived.Test.YtddfigbpckhfbaaGreatDoorQpt8
import Derived.Test.YtddfigbpckhfbaaGreatDoorQpt9
import Derived.Test.YtddfigbpckhfbaaGreatDoorQpt10
import Derived.Test.YtddfigbpckhfbaaGreatDoorQpt11
import Derived.Test.YtddfigbpckhfbaaGreatDoorQpt12
import Derived.Test.YtddfigbpckhfbaaGreatDoorQpt13
import Derived.Test.YtddfigbpckhfbaaGreatDoorQpt14
namespace Go.Proofs.YtddfigbpckhfbaaGreatDoor
open Go.RowKit Go.Lib

/-- The value. -/
def OnD.cl (x : OnD) : Cl := ⟨x.kind, x.bits.toNat, x.str⟩
theorem cellsC_one (l : List Cl) : ∀ u ∈ cellsC l, u.oneCell' = true := fun u hu => by
  unfold cellsC at hu
  obtain ⟨x, _, hx⟩ := List.mem_flatMap.1 hu
  simp [Cl.cells] at hx
  rcases hx with rfl | rfl | rfl <;> rfl
theorem prf_keeps_row {w w' : World} {v : Value} {b : Nat} (hg : w.grownBy w' v.ownBlock) (hlt : b < w.heap.size) (hne : v.ownBlock ≠ some b) (i : Nat) : w'.cell? ⟨b, i, none⟩ = w.cell? ⟨b, i, none⟩ := hg.cell_far _ hlt (fun e => hne e.symm)
/-- 'append' as a step of a region that draws, by a known run. -/
theorem prf_append_val {P : Program} {ops : Array Oper} {o : Oper} {a : Act} {w : World} {K : Act → World → Prop} {Q : Exit → Act → World → Prop} {E : Prop}
    (hg : o.guard = none) (d x : Operand) (dT sT : TypeId) (hop : o.op = Op.call { callee := Callee.builtin Builtin.append, args := #[d, x], argTypes := #[dT, sT] })
    (v : Value) (hd : a.eval d = v) (t : Value) (hx : a.eval x = t) (v' : Value) (w' : World) (hrun : (Builtin.append_ #[dT, sT] o.type #[v, t]).run P w = .ok v' w')
    (hK : K (a.put o.dst v') w') : if Region.wanted o (yielded ops a.tmps) = true then Oper.wp P o a w K Q else E := by
  have hw : Region.wanted o (yielded ops a.tmps) = true := by simp [Region.wanted, hg]
  rw [if_pos hw]
  unfold Oper.wp
  simp [execOp, hop, resolve, invoke, builtin, hd, hx, hrun, Result.andThen]
  exact hK
set_option maxRecDepth 100000 in
set_option maxHeartbeats 4000000 in
theorem pmade_any (A : Option Addr) (cap : Nat) (es : List OnD) (w : World) (hl : es.length ≤ 1048576) (hR : RdO w A es) (hf : ∀ x ∈ es, x.fine) :
    Calls Tryz.prog 26 #[.slice A es.length cap] w fun e w' => ∃ v, e = .returned v ∧ w'.ownsRow w.heap.size 38 3 v es.length (cellsC (es.map OnD.cl)) ∧ Below w.heap.size w w' := by
  obtain ⟨i0, hi, hz0, hz1, hz2⟩ := info_parts info_cell
  have HR := Lib.hid hR
  have HF := Lib.hid hf
  obtain ⟨n, hn⟩ : ∃ n, es.length = n := ⟨_, rfl⟩
  have HN := Lib.hid hn
  rw [hn] at hl ⊢
  clear hR hf hn
  go_enter Tryz.func26, Tryz.ntmps26
  go_wp2
  go_loopw [3, 8] (fun sv kv wr => ∃ (v : Value) (k : Nat), v = sv ∧ kv = .int .i64 (k : Int) ∧ k ≤ n ∧ wr.ownsRow w.heap.size 38 3 v k (cellsC ((es.take k).map OnD.cl)) ∧ Below w.heap.size w wr) (fun _ kv _ => n - (RowKit.intOf kv).toNat)
  case atStart => exact ⟨_, 0, rfl, rfl, Nat.zero_le _, World.ownsRow_nil _ _ _ _, Below.refl _ _⟩
  case round =>
    obtain ⟨v, k, rfl, rfl, hk, hO, hB⟩ := hrel
    by_cases hlt : k < n
    · have hkl : k < es.length := by rw [HN.out]; exact hlt
      obtain ⟨b, off, hA, hcl⟩ := HR.out k hkl
      subst hA
      obtain ⟨w1, w2⟩ := HF.out _ (List.getElem_mem hkl)
      obtain ⟨x, hx⟩ : ∃ x, es[k] = x := ⟨_, rfl⟩
      rw [hx] at hcl w1 w2
      have hcw : ∀ i, i < 3 → wr.cell? ⟨b, off + k * 3 + i, none⟩ = x.cells[i]? := fun i hi => by
        have h1 := hcl i hi
        have h2 : x.cells[i]? = some (x.cells[i]'(by simpa [OnD.cells] using hi)) := List.getElem?_eq_getElem _
        have hl := World.block_lt_of_cell? w _ (h1.trans h2)
        exact (hB.cell (p := ⟨b, off + k * 3 + i, none⟩) hl).trans h1
      obtain ⟨q0, q1⟩ := bounds_u64 w2
      obtain ⟨nb, hnb⟩ : ∃ nb : Nat, x.bits = (nb : Int) := ⟨x.bits.toNat, by omega⟩
      have k1 : wr.cell? ⟨b, off + k * 3, none⟩ = some (.int .i64 x.kind) := hcw 0 (by omega)
      have k2 : wr.cell? ⟨b, off + k * 3 + 1, none⟩ = some (.int .u64 x.bits) := hcw 1 (by omega)
      have k3 : wr.cell? ⟨b, off + k * 3 + 2, none⟩ = some (.string x.str) := hcw 2 (by omega)
      rw [hnb] at k2
      have hfr := run_f64from nb
      have hst := run_store_float
      clear hcl hcw w1 w2
      have hbl := hB.size
      have hnx : v.ownBlock ≠ some wr.heap.size := fun e => by
        rcases hO.2 with ⟨e0, _⟩ | ⟨q', cap', cur, e0, _, hq, _⟩
        · rw [e0] at e; simp [Value.ownBlock] at e
        · rw [e0] at e
          simp [Value.ownBlock] at e
          subst e
          have := (Array.getElem?_eq_some_iff.1 hq).1
          omega
      have ow := fun (c1 c2 : Array Value) (h2 : c2.toList = Cl.cells x.cl) => run_append_own_at (P := Tryz.prog) (((wr.alloc (.cells c1 85)).drew).alloc (.cells c2 38)) w.heap.size 46 46 38 i0 _ 3 32 Tryz.underlying46 hi hz0 hz1 hz2 rfl (by decide) v k _ ((hO.alloc _).drew.alloc _) ⟨wr.heap.size + 1, 0, none⟩ 1 1 (Cl.cells x.cl) rfl (fun j u hu => by have := prf_row_new ((wr.alloc (.cells c1 85)).drew) c2 38 j u (by rw [h2]; exact hu); simpa [World.drew] using this) (by simp [Cl.cells, Value.oneCell']) (by unfold maxLen; omega) (by omega) (by simp; omega)
      obtain ⟨v', w2, hr, hown2, hgrow, _, hloc⟩ := ow #[.int .i64 x.kind, .int .u64 (nb : Int), .string x.str] #[.int .i64 x.kind, .float .f64 nb, .string x.str] (by simp [Cl.cells, OnD.cl, hnb])
      have HK2 : w2.cell? ⟨wr.heap.size, 0, none⟩ = some (.int .i64 x.kind) ∧ w2.cell? ⟨wr.heap.size, 1, none⟩ = some (.int .u64 nb) ∧ w2.cell? ⟨wr.heap.size, 2, none⟩ = some (.string x.str) := by
        have hx5 := fun i => hgrow.cell_far ⟨wr.heap.size, i, none⟩ (by simp; omega) (fun e => hnx e.symm)
        have hc5 : ∀ i, (((wr.alloc (.cells #[.int .i64 x.kind, .int .u64 (nb : Int), .string x.str] 85)).drew).alloc (.cells #[.int .i64 x.kind, .float .f64 nb, .string x.str] 38)).cell? ⟨wr.heap.size, i, none⟩ = #[Value.int .i64 x.kind, .int .u64 (nb : Int), .string x.str][i]? := fun i =>
          (Five.alloc (W := (wr.alloc (.cells #[.int .i64 x.kind, .int .u64 (nb : Int), .string x.str] 85)).drew) ⟨heap_alloc_new wr _⟩ _).cell i
        exact ⟨(hx5 0).trans (hc5 0), (hx5 1).trans (hc5 1), (hx5 2).trans (hc5 2)⟩
      have HR2 := Lib.hid hr
      have HO2 := Lib.hid hown2
      have HG2 := Lib.hid hgrow
      clear ow hr hown2 hgrow
      go_wp2_with fail
      go_region_held_law (fun w' => w'.cell? ⟨wr.heap.size, 0, none⟩ = some (.int .i64 x.kind) ∧ w'.cell? ⟨wr.heap.size, 1, none⟩ = some (.int .u64 nb) ∧ w'.cell? ⟨wr.heap.size, 2, none⟩ = some (.string x.str)) (first | go_keep | exact HK2) (refine prf_append_val rfl (.tmp 12) (.tmp 21) 46 46 rfl v (by simp [Act.eval]) (.slice (some ⟨wr.heap.size + 1, 0, none⟩) 1 1) (by simp [Act.eval]) v' w2 HR2.out ?_)
      all_goals
        clear hnx HK2 k1 k2 k3 hfr hst
        go_wp2_with fail
        refine ⟨⟨v', k + 1, rfl, rfl, by omega, ?_, ?_⟩, ?_⟩
        · rw [List.take_succ_eq_append_getElem hkl, List.map_append, hx, List.map_cons, List.map_nil, cellsC_snoc]
          exact HO2.out
        · refine Below.grown (((hB.alloc hbl _).drew).alloc (by simp; omega) _) HG2.out (by simp; omega) (fun q hq => ?_)
          rcases hO.2 with ⟨e0, _⟩ | ⟨q', cap', cur, e0, hq2, _⟩
          · rw [e0] at hq; simp [Value.ownBlock] at hq
          · rw [e0] at hq
            simp [Value.ownBlock] at hq
            subst hq
            exact hq2
        · simp [RowKit.intOf]
          omega
    · have hkn : k = n := by omega
      subst hkn
      rw [show es.take k = es by rw [← HN.out, List.take_length]] at hO
      go_wp2_with fail
      go_ret
      exact ⟨_, rfl, hO, hB⟩
end Go.Proofs.YtddfigbpckhfbaaGreatDoor
