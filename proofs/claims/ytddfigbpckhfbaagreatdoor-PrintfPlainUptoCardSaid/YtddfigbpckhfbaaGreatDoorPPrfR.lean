/- A slice of layer 11's law values that came in, opened. -/
import Derived.Deep.Slices
import Derived.Deep.Fields
import Derived.ChangeSame
import Derived.Deep.Strs
import Derived.OpenShut
import Derived.Test.YtddfigbpckhfbaaGreatDoorRows
import Derived.Test.YtddfigbpckhfbaaGreatDoorQpt1
import Derived.Test.YtddfigbpckhfbaaGreatDoorQpt2
import Derived.Test.YtddfigbpckhfbaaGreatDoorQpt3
import Derived.Test.YtddfigbpckhfbaaGreatDoorQpt4
import Derived.Test.YtddfigbpckhfbaaGreatDoorQpt5
import Derived.Test.YtddfigbpckhfbaaGreatDoorQpt6
import Derived.Test.YtddfigbpckhfbaaGreatDoorQpt7
import Derived.Test.YtddfigbpckhfbaaGreatDoorQpt8
import Derived.Test.YtddfigbpckhfbaaGreatDoorQpt9
import Derived.Test.YtddfigbpckhfbaaGreatDoorQpt10
import Derived.Test.YtddfigbpckhfbaaGreatDoorQpt11
import Derived.Test.YtddfigbpckhfbaaGreatDoorQpt12
import Derived.Test.YtddfigbpckhfbaaGreatDoorQpt13
import Derived.Test.YtddfigbpckhfbaaGreatDoorQpt14
namespace Go.Proofs.YtddfigbpckhfbaaGreatDoor
open Go.RowKit Go.ChangeShapes Go.WideShapes Go.Deep

section
variable {H : Type} {enc : TypeId × Value → H} {P : Program} {w : World} {base : Nat} {spare : Nat → Bool} {held : Bool}
theorem prf_open_fields {t e : TypeId} {fs : Array Field} {fuel : Nat} {cs : List Value} {x : DataW H × List MemPlace} (ht : P.underlying t = some (.slice e)) (he : P.underlying e = some (.struct fs))
    (hone : oneCellFields P fs = true) (hC : P.cellsOf e = fs.size) (h : DataW.trod enc P w base spare held fuel t cs = some x) :
    (cs = [.slice none 0 0] ∧ x = (.nil, [])) ∨
    ∃ (a : Addr) (len cap m : Nat) (D : Nat → DataW H) (Pl : Nat → List MemPlace), cs = [.slice (some a) len cap] ∧ base ≤ a.block ∧ len ≤ cap ∧ cap ≤ maxLen ∧ m = (if spare a.block then cap else len) ∧
      x = (.slice ((List.range len).map D) ((List.range (m - len)).map fun j => D (len + j)), MemPlace.row a (m * fs.size) ++ (List.range m).flatMap Pl) ∧
      ∀ i, i < m → ∃ (ys : List (DataW H × List MemPlace)) (n : Nat), D i = .agg (ys.map (·.1)) ∧ Pl i = ys.flatMap (·.2) ∧ ys.length = fs.size ∧
        ∀ (j : Nat) (f : Field), fs[j]? = some f → ∃ (v : Value) (y : DataW H × List MemPlace), w.cell? (a.add (i * fs.size + j)) = some v ∧ ys[j]? = some y ∧ DataW.trod enc P w base spare held n f.type [v] = some y := by
  rcases open_slice ht h with h0 | ⟨a, len, cap, m, n, D, Pl, hcs, hb, hl, hm, hmm, hx, hi⟩
  · exact .inl h0
  · refine .inr ⟨a, len, cap, m, D, Pl, hcs, hb, hl, hm, hmm, by rw [hC] at hx; exact hx, fun i him => ?_⟩
    obtain ⟨cs', hc, ht'⟩ := hi i him
    rw [hC] at hc
    obtain ⟨ys, n', hn', hy, hlen, hyl, hf⟩ := DataW.trod_struct he ht'
    obtain ⟨_, hcl, hat⟩ := World.cells?_some hc
    simp only [Prod.mk.injEq] at hy
    refine ⟨ys, n', hy.1, hy.2, hyl, fun j f hj => ?_⟩
    obtain ⟨ho, hk⟩ := hone_of hone j f hj
    have hjl : j < fs.size := (Array.getElem?_eq_some_iff.1 hj).1
    have hcell := hat j hjl
    have hv : cs'[j]? = some (cs'[j]'(by omega)) := List.getElem?_eq_getElem (by omega)
    have h1 := hf j f hj
    rw [ho, hk] at h1
    have hone' : (cs'.drop j).take 1 = [cs'[j]'(by omega)] := by
      rw [List.drop_eq_getElem_cons (by omega)]
      rfl
    rw [hone'] at h1
    have hys : ys[j]? = some (ys[j]'(by omega)) := List.getElem?_eq_getElem (by omega)
    refine ⟨_, _, ?_, hys, h1.trans hys⟩
    rw [← Go.Deep.add_add, hcell, hv]
end
theorem bulk_pos {H : Type} (d : DataW H) : 1 ≤ Rows.uptoBulk d := by
  unfold Rows.uptoBulk
  split <;> omega
theorem bulk_len {H : Type} (l : List (DataW H)) : l.length ≤ Rows.uptoBulkAll l := by
  induction l with
  | nil => exact Nat.zero_le _
  | cons d r ih =>
    rw [Rows.uptoBulkAll, List.length_cons]
    have := bulk_pos d
    omega
theorem bulk_mem {H : Type} {l : List (DataW H)} {d : DataW H} (h : d ∈ l) : Rows.uptoBulk d ≤ Rows.uptoBulkAll l := by
  induction l with
  | nil => cases h
  | cons e r ih =>
    rw [Rows.uptoBulkAll]
    rcases List.mem_cons.1 h with rfl | h
    · omega
    · have := ih h; omega
/-- A value as the law has it. -/
structure OnD where
  kind : Int
  bits : Int
  str : ByteArray
def OnD.cells (x : OnD) : List Value := [.int .i64 x.kind, .int .u64 x.bits, .string x.str]
def OnD.dat {H : Type} (x : OnD) : DataW H := .agg [.lit (.int .i64 x.kind), .lit (.int .u64 x.bits), .lit (.string x.str.data.toList)]
def OnD.fine (x : OnD) : Prop := (Lit.int .i64 x.kind).wf = true ∧ (Lit.int .u64 x.bits).wf = true
/-- Its values lie there. -/
def RdO (W : World) (A : Option Addr) (es : List OnD) : Prop := ∀ j (_ : j < es.length), ∃ b off, A = some ⟨b, off, none⟩ ∧ ∀ i, i < 3 → W.cell? ⟨b, off + j * 3 + i, none⟩ = es[j].cells[i]?
theorem RdO.below {W W' : World} {A : Option Addr} {es : List OnD} {B : Nat} (h : RdO W A es) (hB : W.heap.size ≤ B) (hb : Below B W W') : RdO W' A es := fun j hj => by
  obtain ⟨b, off, e, hc⟩ := h j hj
  refine ⟨b, off, e, fun i hi => ?_⟩
  have h1 := hc i hi
  have h2 : es[j].cells[i]? = some (es[j].cells[i]'(by simpa [OnD.cells] using hi)) := List.getElem?_eq_getElem _
  have hl := World.block_lt_of_cell? W _ (h1.trans h2)
  exact (hb.cell (p := ⟨b, off + j * 3 + i, none⟩) (by simp at hl ⊢; omega)).trans h1
theorem cells_one : Tryz.prog.cellsOf 85 = 3 := by kernel_rfl
set_option maxRecDepth 100000 in
theorem open_onesA {H : Type} {enc : TypeId × Value → H} {W : World} {v : Value} {d : DataW H} {p : List MemPlace} {base : Nat} (hv : Value.okWide Tryz.prog W .any base 42 v) (h : DataW.Trod enc Tryz.prog W 0 (fun _ => true) true 42 v d p) :
    ∃ (A : Option Addr) (cap : Nat) (es : List OnD), v = .slice A es.length cap ∧ es.length ≤ cap ∧ cap ≤ maxLen ∧ RdO W A es ∧ (∀ x ∈ es, x.fine) ∧ ((∀ z ∈ DataW.weights Tryz.prog 42 d, z ≤ 140737488351232) → ∀ x ∈ es, x.str.size ≤ 140737488351232) ∧ (∀ N : Nat, Rows.uptoBulk d ≤ N → es.length ≤ N ∧ ∀ x ∈ es, x.str.size ≤ N) := by
  obtain ⟨a0, len, cap, rfl⟩ := okWide_slice Tryz.underlying42 hv
  obtain ⟨fuel, hf⟩ := h
  rcases prf_open_fields Tryz.underlying42 Tryz.underlying85 (by kernel_rfl) cells_one hf with ⟨hcs, hx⟩ | ⟨a, len', cap', m, D, Pl, hcs, _, hl, hm, hmm, hx, hi⟩
  · simp [Value.cells] at hcs
    obtain ⟨rfl, rfl, rfl⟩ := hcs
    exact ⟨none, 0, [], rfl, Nat.le_refl _, Nat.zero_le _, fun j hj => absurd hj (Nat.not_lt_zero _), fun x hx => (by cases hx), fun _ x hx => (by cases hx), fun N _ => ⟨Nat.zero_le _, fun x hx => (by cases hx)⟩⟩
  · simp [Value.cells] at hcs
    obtain ⟨rfl, rfl, rfl⟩ := hcs
    simp only [if_true] at hmm
    subst hmm
    simp only [Prod.mk.injEq] at hx
    obtain ⟨rfl, rfl⟩ := hx
    have each : ∀ i, i < m → ∃ x : OnD, (∀ j, j < 3 → W.cell? (a.add (i * 3 + j)) = x.cells[j]?) ∧ D i = x.dat ∧ x.fine := fun i him => by
      obtain ⟨ys, n, hD, _, hyl, hf⟩ := hi i him
      obtain ⟨v0, y0, c0, e0, t0⟩ := hf 0 _ rfl
      obtain ⟨v1, y1, c1, e1, t1⟩ := hf 1 _ rfl
      obtain ⟨v2, y2, c2, e2, t2⟩ := hf 2 _ rfl
      match ys, hyl with
      | [z0, z1, z2], _ =>
        simp at e0 e1 e2
        subst e0 e1 e2
        obtain ⟨k1, h1, q1, w1⟩ := DataW.trod_int Tryz.underlying3 t0
        obtain ⟨k2, h2, q2, w2⟩ := DataW.trod_int Tryz.underlying22 t1
        obtain ⟨s3, h3, q3, _⟩ := DataW.trod_string Tryz.underlying9 t2
        simp at h1 h2 h3
        subst h1 h2 h3
        refine ⟨⟨k1, k2, s3⟩, fun j hj => ?_, by rw [hD, q1, q2, q3]; rfl, w1, w2⟩
        match j, hj with
        | 0, _ => exact c0
        | 1, _ => exact c1
        | 2, _ => exact c2
    have inh : Inhabited OnD := ⟨⟨0, 0, ⟨#[]⟩⟩⟩
    obtain ⟨Sx, hS⟩ := choose_lt each
    have hlen : ((List.range len).map Sx).length = len := by rw [List.length_map, List.length_range]
    refine ⟨some a, m, (List.range len).map Sx, by rw [hlen], by rw [hlen]; exact hl, hm, ?_, ?_, ?_, ?_⟩
    · intro j hj
      rw [hlen] at hj
      obtain ⟨b, off, spot⟩ := a
      have h0 := (hS j (by omega)).1
      have hspot : spot = none := by
        have := (hS 0 (by omega)).1 0 (by omega)
        simpa [Addr.add] using World.cell?_spot (this.trans (show (Sx 0).cells[0]? = some _ from rfl))
      subst hspot
      refine ⟨b, off, rfl, fun i hi => ?_⟩
      have := h0 i hi
      rw [Go.WideShapes.add_plain] at this
      rw [show off + j * 3 + i = off + (j * 3 + i) by omega, this]
      simp
    · intro x hx
      obtain ⟨i, hi, rfl⟩ := List.mem_map.1 hx
      exact (hS i (by have := List.mem_range.1 hi; omega)).2.2
    · intro hz x hx
      obtain ⟨i, hi, rfl⟩ := List.mem_map.1 hx
      have hil := List.mem_range.1 hi
      have e : (Sx i).str.size = (Sx i).str.data.toList.length := by rw [Array.length_toList]; rfl
      rw [e]
      apply hz
      unfold DataW.weights
      rw [Tryz.underlying42]
      refine List.mem_cons_of_mem _ (List.mem_append_left _ ?_)
      refine mem_weightsAll (List.mem_map.2 ⟨i, hi, rfl⟩) ?_
      rw [(hS i (by omega)).2.1]
      unfold OnD.dat DataW.weights
      rw [Tryz.underlying85]
      simp [DataW.weightsEach, DataW.weights]
    · intro N hN
      rw [Rows.uptoBulk] at hN
      have h1 := bulk_len ((List.range len).map D)
      rw [List.length_map, List.length_range] at h1
      refine ⟨by rw [hlen]; omega, fun x hx => ?_⟩
      obtain ⟨i, hi, rfl⟩ := List.mem_map.1 hx
      have hil := List.mem_range.1 hi
      have h2 := bulk_mem (l := (List.range len).map D) (d := D i) (List.mem_map.2 ⟨i, hi, rfl⟩)
      rw [(hS i (by omega)).2.1] at h2
      unfold OnD.dat at h2
      simp only [Rows.uptoBulk, Rows.uptoBulkAll] at h2
      have e : (Sx i).str.size = (Sx i).str.data.toList.length := by rw [Array.length_toList]; rfl
      rw [e]
      omega
end Go.Proofs.YtddfigbpckhfbaaGreatDoor
