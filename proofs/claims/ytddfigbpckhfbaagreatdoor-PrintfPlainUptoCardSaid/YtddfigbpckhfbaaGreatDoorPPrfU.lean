/- The walk of the law PrintfJoins: its calls. -/
import Derived.Test.YtddfigbpckhfbaaGreatDoorPPrfT
import Derived.Test.YtddfigbpckhfbaaGreatDoorQpt1
import Derived.Test.YtddfigbpckhfbaaGreatDoorQpt2
import Derived.Test.YtddfigbpckhfbaaGreatDoorQpt3
import Derived.Test.YtddfigbpckhfbaaGreatDoorQpt4
import Derived.Test.YtddfigbpckhfbaaGreatDoorQpt5
import Derived.Test.YtddfigbpckhfbaaGreatDoorQpt6
import Derived.Test.YtddfigbpckhfbaaGreatDoorQpt7
import Derived.Test.YtddfigbpckhfbaaGreatDoorQpt8
import Derived.Test.YtddfigbpckhfbaaGreatDoorQpt9
import Derived.Test.YtddfigbpckhfbaaGreatDoorQpt10
import Derived.Test.YtddfigbpckhfbaaGreatDoorQpt11
import Derived.Test.YtddfigbpckhfbaaGreatDoorQpt12
import Derived.Test.YtddfigbpckhfbaaGreatDoorQpt13
import Derived.Test.YtddfigbpckhfbaaGreatDoorQpt14
namespace Go.Proofs.YtddfigbpckhfbaaGreatDoor
open Go.RowKit Go.Lib

theorem RdO.take {W : World} {A : Option Addr} {es : List OnD} (h : RdO W A es) (k : Nat) : RdO W A (es.take k) := fun j hj => by
  have hj2 : j < es.length := by rw [List.length_take] at hj; omega
  obtain ⟨b, off, e, hc⟩ := h j hj2
  refine ⟨b, off, e, fun i hi => ?_⟩
  rw [hc i hi, List.getElem_take]
theorem RdO.drop {W : World} {b off : Nat} {es : List OnD} (h : RdO W (some ⟨b, off, none⟩) es) (k : Nat) : RdO W (some ⟨b, off + k * 3, none⟩) (es.drop k) := fun j hj => by
  have hj2 : k + j < es.length := by rw [List.length_drop] at hj; omega
  obtain ⟨b', off', e, hc⟩ := h (k + j) hj2
  injection e with e
  injection e with e1 e2 e3
  subst e1; subst e2
  refine ⟨b, off + k * 3, rfl, fun i hi => ?_⟩
  have := hc i hi
  rw [show off + (k + j) * 3 + i = off + k * 3 + j * 3 + i by omega] at this
  rw [this, List.getElem_drop]
theorem RdO.keep {W W' : World} {A : Option Addr} {es : List OnD} {B : Nat} (h : RdO W A es) (hB : W.heap.size ≤ B) (hb : Below B W W') : RdO W' A es := h.below hB hb
structure OnFine (es : List OnD) : Prop where
  wf : ∀ x ∈ es, x.fine
  str : ∀ x ∈ es, x.str.size ≤ 1048576
  len : es.length ≤ 1048576
theorem OnFine.take {es : List OnD} (h : OnFine es) (k : Nat) : OnFine (es.take k) := ⟨fun x hx => h.wf x (List.mem_of_mem_take hx), fun x hx => h.str x (List.mem_of_mem_take hx), by rw [List.length_take]; have := h.len; omega⟩
theorem OnFine.drop {es : List OnD} (h : OnFine es) (k : Nat) : OnFine (es.drop k) := ⟨fun x hx => h.wf x (List.mem_of_mem_drop hx), fun x hx => h.str x (List.mem_of_mem_drop hx), by rw [List.length_drop]; have := h.len; omega⟩
theorem on_vals {es : List OnD} (h : OnFine es) : Vals p6g cv6 (es.map OnD.cl) := by
  have hb : ∀ c ∈ es.map OnD.cl, c.bits < 18446744073709551616 := fun c hc => by
    obtain ⟨x, hx, rfl⟩ := List.mem_map.1 hc
    have := bounds_u64 (h.wf x hx).2
    show x.bits.toNat < _
    omega
  refine ⟨fun c hc => ⟨hb c hc, ?_⟩, fun c hc _ W hW => conv_6g c.bits W (hb c hc) hW⟩
  obtain ⟨x, hx, rfl⟩ := List.mem_map.1 hc
  have := h.str x hx
  show x.str.size ≤ _
  omega
theorem on_short {es : List OnD} (h : OnFine es) (w : World) : Short cv6 (es.map OnD.cl) := fun c hc => by
  obtain ⟨x, hx, rfl⟩ := List.mem_map.1 hc
  have h1 := h.str x hx
  have h2 := bounds_u64 (h.wf x hx).2
  refine ⟨?_, h1⟩
  show (wrT x.kind x.str (cv6 x.bits.toNat)).size ≤ _
  unfold wrT
  split
  · exact Nat.le_trans (prf_conv6_len w (by omega)) (by omega)
  · split
    · exact h1
    · exact Nat.zero_le _
theorem pj_call (S : ByteArray) (es : List OnD) (h : OnFine es) (hS : S.size ≤ 4611686018427387904) (v : Value) (W : World) (B : Nat) (hv : W.ownsRow B 38 3 v es.length (cellsC (es.map OnD.cl))) (hT : PowTab W) (hU : Utf8Tabs 3 4 W) :
    Calls Tryz.prog 27 #[.string S, v, .agg #[.string ⟨#[37, 46, 54, 103]⟩, .bool false]] W fun e w' => e = .returned (.tuple #[.string ⟨(sprT (sprR cv6 false S 0 (es.map OnD.cl) [])).toArray⟩, .int .i64 (sprE (sprR cv6 false S 0 (es.map OnD.cl) []))]) ∧ Below W.heap.size W w' :=
  sprintf_any S p6g false cv6 (es.map OnD.cl) v W hS (argv_own (by rw [List.length_map]) hv) (on_vals h) (Or.inl (on_short h W)) hT hU
/-- What the law looks at, of three texts. -/
def Dec3 (XA X2 X3 : ByteArray) (E2 E3 : Int) : Prop := (E2 ≠ 0 ∧ (E3 = E2 ∨ E3 = 3)) ∨ (E2 = 0 ∧ 1024 < XA.size + X2.size ∧ E3 = 3 ∧ X3 = ⟨#[]⟩) ∨ (E2 = 0 ∧ ¬ 1024 < XA.size + X2.size ∧ E3 = 0 ∧ X3 = XA ++ X2)
def sprB (r : Spr) : ByteArray := ⟨(sprT r).toArray⟩
theorem dec3 {F G : ByteArray} {l : List Cl} {n : Nat} (hn : n ≤ l.length) (hm : ∀ m, m < n → ∀ z, sprR cv6 false F 0 (l.take m) [] ≠ .ok z) {z : List UInt8 × List Cl} (h : sprR cv6 false F 0 (l.take n) [] = .ok z) :
    Dec3 (sprB (sprR cv6 false F 0 (l.take n) [])) (sprB (sprR cv6 false G 0 (l.drop n) [])) (sprB (sprR cv6 false (F ++ G) 0 l [])) (sprE (sprR cv6 false G 0 (l.drop n) [])) (sprE (sprR cv6 false (F ++ G) 0 l [])) := by
  obtain ⟨a, l'⟩ := z
  have hj := spr_joins (G := G) hn hm h
  rw [h]
  rcases hj with ⟨e, h2, he, h3 | h3⟩ | ⟨b, l2, h2, ⟨hq, h3⟩ | ⟨hq, h3⟩⟩
  · rw [h2, h3]; exact Or.inl ⟨he, Or.inl rfl⟩
  · rw [h2, h3]; exact Or.inl ⟨he, Or.inr rfl⟩
  · rw [h2, h3]; exact Or.inr (Or.inl ⟨rfl, hq, rfl, rfl⟩)
  · rw [h2, h3]
    refine Or.inr (Or.inr ⟨rfl, hq, rfl, ?_⟩)
    show (⟨(a ++ b).toArray⟩ : ByteArray) = ⟨a.toArray⟩ ++ ⟨b.toArray⟩
    exact mk_two a b
theorem sprB_len (cv : Nat → ByteArray) (by' : Bool) (S : ByteArray) (l : List Cl) : (sprB (sprR cv by' S 0 l [])).size ≤ 1024 := by
  cases h : sprR cv by' S 0 l [] with
  | error e => exact Nat.zero_le _
  | ok z =>
    unfold sprR at h
    exact spr_len _ _ _ _ _ _ h (by decide)
end Go.Proofs.YtddfigbpckhfbaaGreatDoor
