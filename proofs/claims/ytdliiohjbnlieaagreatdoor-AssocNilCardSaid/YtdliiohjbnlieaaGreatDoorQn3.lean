/- Several texts in one (Contracts of layer 8: a sort of nothing; the entries of an array that is nil; Contracts of layer 8: New, add; Contracts of layer 8: Set, Get; Contracts of layer 8: Sub; Contracts of layer 8: Total; Totals of arrays within one another; the laws' fixed; Contracts of layer 8: a loop over an array that is nil; The walk of the law AssocNil; The walk of the law AssocNil). -/
import Derived.RegionTactic
import Derived.Deep.RegionHeld3
import Derived.Stop.RegionWithIn
import Derived.Test.YtdliiohjbnlieaaGreatDoorQn1
import Derived.Test.YtdliiohjbnlieaaGreatDoorQn2
namespace Go.Proofs.YtdliiohjbnlieaaGreatDoor
open Go.RowKit Go.Lib

theorem insNil_any (A : Option Addr) (cap : Nat) (g : Value) (W : World) : Calls Tryz.prog 63 #[.slice A 0 cap, .int .i64 0, .int .i64 0, g] W fun e w' => (∃ r, e = .returned r) ∧ W = w' := by
  go_enter Tryz.func63, Tryz.ntmps63
  go_wp2_with fail
  go_loopw [8] (fun v wr => v = .int .i64 1 ∧ wr = W) (fun _ _ => 0)
  case atStart => exact ⟨rfl, rfl⟩
  case round =>
    obtain ⟨rfl, rfl⟩ := hrel
    go_wp2_with fail
    go_end0
    exact ⟨⟨_, rfl⟩, rfl⟩
set_option maxRecDepth 100000 in
theorem pdqNil_any (A : Option Addr) (cap : Nat) (k : Int) (g : Value) (W : World) : Calls Tryz.prog 53 #[.slice A 0 cap, .int .i64 0, .int .i64 0, .int .i64 k, g] W fun e w' => (∃ r, e = .returned r) ∧ W = w' := by
  have CI := Lib.hid (fun W => insNil_any A cap g W)
  go_enter Tryz.func53, Tryz.ntmps53
  go_wp2_with fail
  go_loopw [1, 2] (fun a b wr => a = .int .i64 0 ∧ b = .int .i64 0 ∧ wr = W) (fun _ _ _ => 0)
  case atStart => exact ⟨rfl, rfl, rfl⟩
  case round =>
    obtain ⟨rfl, rfl, rfl⟩ := hrel
    go_wp2_with fail
    refine (CI.out _).mono ?_
    rintro e w' ⟨⟨r, rfl⟩, rfl⟩
    go_wp2_with fail
    exact bodyPost_ret (results_none rfl _ _ _) rfl ⟨⟨_, rfl⟩, rfl⟩
set_option maxRecDepth 100000 in
theorem sortNil_any (A : Option Addr) (cap : Nat) (g : Value) (W : World) : Calls Tryz.prog 39 #[.slice A 0 cap, g] W fun e w' => (∃ r, e = .returned r) ∧ W = w' := by
  have CP := Lib.hid (fun k W => pdqNil_any A cap k g W)
  have CL := Lib.hid (Tryz.bits_Len 0 W (by omega) (by omega))
  go_enter Tryz.func39, Tryz.ntmps39
  go_wp2_with fail
  refine CL.out.mono ?_
  rintro e w' ⟨rfl, rfl⟩
  obtain ⟨z, hz⟩ : ∃ z : Nat, Lib.bitLen (Int.toNat 0) = z := ⟨_, rfl⟩
  rw [hz]
  clear hz
  go_wp2_with fail
  refine (CP.out _ _).mono ?_
  rintro e w2 ⟨⟨r, rfl⟩, rfl⟩
  go_wp2_with fail
  go_end0
  exact ⟨⟨_, rfl⟩, rfl⟩
set_option maxRecDepth 100000 in
theorem sortedNil_any (B : Nat) (g : Value) (w : World) (h1 : w.cell? ⟨B, 0, none⟩ = some (.map none)) :
    Calls Tryz.prog 28 #[.func (.func 40) #[] #[.pointer (some ⟨B, 0, none⟩)], g] w fun e w' => e = .returned (.slice none 0 0) ∧ Below w.heap.size w w' := by
  have CC := Lib.hid (collectNil_any B w h1)
  have CS := Lib.hid (fun W => sortNil_any none 0 g W)
  clear h1
  go_enter Tryz.func28, Tryz.ntmps28
  go_wp2_with fail
  refine CC.out.mono ?_
  rintro e w2 ⟨rfl, hb⟩
  have HB := Lib.hid hb
  clear hb CC
  go_wp2_with fail
  refine (CS.out _).mono ?_
  rintro e w3 ⟨⟨r, rfl⟩, rfl⟩
  go_wp2_with fail
  go_ret
  exact ⟨rfl, HB.out⟩
set_option maxRecDepth 100000 in
theorem nilEntries_any (W : World) : Calls Tryz.prog 23 #[nilP] W fun e w' => ∃ A cap, e = .returned (.slice A 0 cap) ∧ Below W.heap.size W w' := by
  have CH := Lib.hid (held_nil W)
  have CV := Lib.hid (valuesNil_any W)
  have x0 := Boxed.new W 47 (.map none)
  have CS := Lib.hid (fun g => sortedNil_any W.heap.size g _ x0.cell)
  have hb0 := (Below.refl W.heap.size W).alloc (Nat.le_refl _) (.cells #[.map none] 47)
  have HB0 := Lib.hid hb0
  have hs0 := hb0.size
  obtain ⟨i0, hi, hz0, hz1, hz2⟩ := info_parts info_entry
  have hmk : ∀ W : World, (Instr.makeSlice 56 (.int .i64 0) (.int .i64 0)).run Tryz.prog W = .ok (.slice (some ⟨W.heap.size, 0, none⟩) 0 0) (W.alloc (.cells (madeCells (Value.agg #[.string ⟨#[]⟩, .int .i64 0, .float .f64 0, .string ⟨#[]⟩, .bool false]).cells (0 * 5)) 62)) := fun W => by
    have := run_make (P := Tryz.prog) W 56 62 i0 _ Tryz.underlying56 hi hz0 .i64 .i64 ((0 : Nat) : Int) ((0 : Nat) : Int) (by omega) (by omega) (by rw [hz2]; omega) (by omega)
    rw [hz1, Int.toNat_natCast] at this
    exact this
  clear x0 hb0 hi hz0 hz1 hz2
  go_enter Tryz.func23, Tryz.ntmps23
  go_wp2_with fail
  refine CH.out.mono ?_
  rintro e w' ⟨rfl, rfl⟩
  go_wp2_with fail
  refine CV.out.mono ?_
  rintro e w' ⟨rfl, rfl⟩
  go_wp2_with fail
  refine (CS.out _).mono ?_
  rintro e W2 ⟨rfl, hb⟩
  have hb2 := HB0.out.trans (hb.mono hs0)
  have HB2 := Lib.hid hb2
  have hs2 := hb2.size
  clear hb hb2 HB0 CS CV CH
  go_wp2_with fail
  go_loopw [16] (fun v wr => v = .int .i64 0 ∧ Below W.heap.size W wr) (fun _ _ => 0)
  case atStart => exact ⟨rfl, HB2.out.alloc hs2 _⟩
  case round =>
    obtain ⟨rfl, hB⟩ := hrel
    have HB := Lib.hid hB
    clear hB hmk
    go_wp2_with fail
    go_ret
    exact ⟨_, _, rfl, HB.out⟩
end Go.Proofs.YtdliiohjbnlieaaGreatDoor

namespace Go.Proofs.YtdliiohjbnlieaaGreatDoor
open Go.RowKit Go.Lib Go.Maps

theorem new_any (w : World) : Calls Tryz.prog 16 #[] w fun e w' => ∃ a m, e = .returned (ptrB a) ∧ Arr w' a m 0 0 (.map []) ∧ w.heap.size ≤ a ∧ w.heap.size ≤ m ∧ Below w.heap.size w w' := by
  have hmm := @run_makeMap Tryz.prog
  have ho := (World.ownsMap_made w Tryz.prog 9 asR).alloc (.cells #[.map (some w.heap.size), .int .i64 0] 54)
  have hr := Blk.new (w.alloc (.map #[] 0)) #[.map (some w.heap.size), .int .i64 0] 54
  have hb := ((Below.refl w.heap.size w).alloc (Nat.le_refl _) (.map #[] 0)).alloc (by simp) (.cells #[.map (some w.heap.size), .int .i64 0] 54)
  rw [World.size_alloc] at hr
  have HO := Lib.hid ho
  have HR := Lib.hid hr
  have HB := Lib.hid hb
  clear ho hr hb
  go_enter Tryz.func16, Tryz.ntmps16
  go_wp2
  go_ret
  exact ⟨w.heap.size + 1, w.heap.size, rfl, ⟨HR.out, HO.out⟩, by omega, Nat.le_refl _, HB.out⟩
/-- 'm[k] = v': the world behind it. -/
noncomputable def mapPut (W : World) (m : Nat) (s : ByteArray) (v : Value) : World := match (Instr.mapUpdate 47 (.map (some m)) (.string s) v).run Tryz.prog W with | .ok _ w' => w' | _ => W
theorem put_run {W : World} {m n : Nat} {D : AD} (h : W.ownsMap Tryz.prog 9 asR m n D) (hn : n < maxLen) {s : ByteArray} (hs : s.size ≤ maxLen) (v : Value) :
    (Instr.mapUpdate 47 (.map (some m)) (.string s) v).run Tryz.prog W = .ok () (mapPut W m s v) ∧ (mapPut W m s v).ownsMap Tryz.prog 9 asR m (n + 1) (D.put (klS s) (.held v)) ∧ W.mapTurned (mapPut W m s v) m := by
  obtain ⟨w', hr, h1, h2⟩ := h.store law_s Tryz.underlying47 hn (key_s hs) (d := .held v) (ps := []) (val := v) rfl
  have e : mapPut W m s v = w' := by unfold mapPut; rw [hr]
  rw [e]
  exact ⟨hr, h1, h2⟩
theorem asAdd_any {W : World} {a m n : Nat} {came : Int} {D : AD} (h : Arr W a m n came D) (s : ByteArray) (hs : s.size ≤ 281474976710656) (hn : n < maxLen) (hc0 : 0 ≤ came) (hc1 : came < 1000000) :
    Calls Tryz.prog 22 #[ptrB a, .string s] W fun e w' => ∃ el, e = .returned (ptrB el) ∧ W.heap.size ≤ el ∧ Arr w' a m (n + 1) (came + 1) (D.put (klS s) (.held (ptrB el))) ∧ Elt w' el s came 0 0 ⟨#[]⟩ nilP ∧ Off2 a m W w' := by
  have C := Lib.hid (fun W => asClone_any s W hs)
  have hR : Below W.heap.size W W := Below.refl _ _
  have HK := Lib.hid (fun (W' : World) (hb : Below W.heap.size W W') => (show W'.cell? ⟨a, 1, none⟩ = some (.int .i64 came) from (h.kept hb).row.cell 1))
  have c1 : W.cell? ⟨a, 1, none⟩ = some (.int .i64 came) := h.row.cell 1
  have HA := Lib.hid h
  clear h
  go_enter Tryz.func22, Tryz.ntmps22
  go_wp2_with fail
  go_region_held3 (fun w' => w'.cell? ⟨a, 1, none⟩ = some (.int .i64 came))
    (first | (with_reducible exact S1) | go_keep)
    (first | (go_at_call 27; (with_reducible refine (C.out _).mono ?_); rintro e W3 ⟨rfl, h3⟩; have b3 : Below W.heap.size W W3 := ⟨h3.os, h3.tape, h3.output, h3.size, h3.block⟩; have S1 := HK.out _ b3; clear h3))
  rename_i hHeld
  clear hHeld S1 c1
  have A3 := HA.out.kept b3
  have A4 : Arr (W3.alloc (.cells #[.string s, .int .i64 came, .int .i64 0, .float .f64 0, .string ⟨#[]⟩, nilP] 52)) a m n came D := ⟨A3.row.alloc _, A3.own.alloc _⟩
  have E4 := Blk.new W3 #[.string s, .int .i64 came, .int .i64 0, .float .f64 0, .string ⟨#[]⟩, nilP] 52
  have hsz : W.heap.size ≤ W3.heap.size := b3.size
  have b4 := b3.alloc hsz (.cells #[.string s, .int .i64 came, .int .i64 0, .float .f64 0, .string ⟨#[]⟩, nilP] 52)
  have hel : W3.heap.size < (W3.alloc (.cells #[.string s, .int .i64 came, .int .i64 0, .float .f64 0, .string ⟨#[]⟩, nilP] 52)).heap.size := by rw [World.size_alloc]; omega
  obtain ⟨el, hE⟩ : ∃ el, W3.heap.size = el := ⟨_, rfl⟩
  rw [hE] at E4 hsz hel
  obtain ⟨W4, hW4⟩ : ∃ W4, W3.alloc (.cells #[.string s, .int .i64 came, .int .i64 0, .float .f64 0, .string ⟨#[]⟩, nilP] 52) = W4 := ⟨_, rfl⟩
  have HAM := Lib.hid (show a < W.heap.size ∧ m < W.heap.size from ⟨HA.out.row.lt, HA.out.own.lt⟩)
  rw [hW4] at A4 E4 b4 hel
  rw [hE]
  rw [hW4]
  clear A3 b3 hE hW4 HA HK C
  have c0 : W4.cell? ⟨a, 0, none⟩ = some (.map (some m)) := A4.row.cell 0
  have e0 : W4.cell? ⟨el, 0, none⟩ = some (.string s) := E4.cell 0
  obtain ⟨hmu, o5, t5⟩ := put_run (W := W4.drew) (s := s) A4.own hn (by unfold maxLen; omega) (ptrB el)
  have g5 : W4.drew.grownBy (mapPut W4.drew m s (ptrB el)) (some m) := t5.grown
  have ham : a ≠ m := fun e => by
    obtain ⟨es, clock, hh, _⟩ := A4.own
    rw [← e, A4.row.row] at hh
    cases hh
  have r5 : Blk (mapPut W4.drew m s (ptrB el)) a #[.map (some m), .int .i64 came] 54 := (show Blk W4.drew a _ _ from ⟨A4.row.row⟩).grown g5 (by simp; omega)
  have e5 : Elt (mapPut W4.drew m s (ptrB el)) el s came 0 0 ⟨#[]⟩ nilP := (show Blk W4.drew el _ _ from ⟨E4.row⟩).grown g5 (by simp; have := HAM.out; omega)
  have k0 : (mapPut W4.drew m s (ptrB el)).cell? ⟨a, 0, none⟩ = some (.map (some m)) := r5.cell 0
  have k1 : (mapPut W4.drew m s (ptrB el)).cell? ⟨el, 0, none⟩ = some (.string s) := e5.cell 0
  have HB5 := Lib.hid (Off2.trans (a := a) (m := m) (Off2.of_below (show Below W.heap.size W W4.drew from b4.drew)) (Off2.turned t5))
  have HO5 := Lib.hid o5
  have HR5 := Lib.hid r5
  have HE5 := Lib.hid e5
  clear A4 E4 b4 o5 t5 g5 r5 e5
  go_wp2_with fail
  go_region_held3 (fun w' => w'.cell? ⟨a, 0, none⟩ = some (.map (some m)) ∧ w'.cell? ⟨el, 0, none⟩ = some (.string s))
    (first | (with_reducible exact ⟨k0, k1⟩) | go_keep)
    (fail)
  all_goals
    clear c0 e0 k0 k1 hmu
    obtain ⟨W5, hW5⟩ : ∃ W5, mapPut W4.drew m s (ptrB el) = W5 := ⟨_, rfl⟩
    rw [hW5] at HB5 HO5 HR5 HE5 ⊢
    have c1 : W5.cell? ⟨a, 1, none⟩ = some (.int .i64 came) := HR5.out.cell 1
    have f1 : W5.frozen? ⟨a, 1, none⟩ = false := HR5.out.fro 1
    clear hW5
    go_wp2
    go_ret
    exact ⟨el, rfl, hsz, ⟨HR5.out.set (j := 1) (u := .int .i64 (came + 1)), HO5.out.setCell (by simp; omega) _⟩, HE5.out.other (by have := HAM.out; omega), HB5.out.trans (Off2.setCell _ _ _ _ _)⟩
end Go.Proofs.YtdliiohjbnlieaaGreatDoor

namespace Go.Proofs.YtdliiohjbnlieaaGreatDoor
open Go.RowKit Go.Lib Go.Maps

theorem Blk.six {W : World} {g : Nat} {a b c d e f : Value} {t : TypeId} (h : Blk W g #[a, b, c, d, e, f] t) : (W.cell? ⟨g, 0, none⟩ = some a ∧ W.cell? ⟨g, 1, none⟩ = some b ∧ W.cell? ⟨g, 2, none⟩ = some c ∧ W.cell? ⟨g, 3, none⟩ = some d ∧ W.cell? ⟨g, 4, none⟩ = some e ∧ W.cell? ⟨g, 5, none⟩ = some f) ∧ (W.frozen? ⟨g, 0, none⟩ = false ∧ W.frozen? ⟨g, 1, none⟩ = false ∧ W.frozen? ⟨g, 2, none⟩ = false ∧ W.frozen? ⟨g, 3, none⟩ = false ∧ W.frozen? ⟨g, 4, none⟩ = false ∧ W.frozen? ⟨g, 5, none⟩ = false) :=
  ⟨⟨h.cell 0, h.cell 1, h.cell 2, h.cell 3, h.cell 4, h.cell 5⟩, ⟨h.fro 0, h.fro 1, h.fro 2, h.fro 3, h.fro 4, h.fro 5⟩⟩
/-- Set at a key that isn't there. -/
theorem set_new {W : World} {a m n : Nat} {came : Int} {D : AD} (h : Arr W a m n came D) (s : ByteArray) (hs : s.size ≤ 281474976710656) (hn : n < maxLen) (hc0 : 0 ≤ came) (hc1 : came < 1000000) (hat : D.atKey (klS s) (.held nilP) = .held nilP) (kind : Int) (N : Nat) (S : ByteArray) (hS : S.size ≤ 281474976710656) :
    Calls Tryz.prog 14 #[ptrB a, .string s, .agg #[.int .i64 kind, .float .f64 N, .string S]] W fun e w' => e = .returned (.int .i64 0) ∧ (∃ el, W.heap.size ≤ el ∧ Arr w' a m (n + 1) (came + 1) (D.put (klS s) (.held (ptrB el))) ∧ Elt w' el s came kind N S nilP) ∧ Off2 a m W w' := by
  have X1 := Blk.new W #[.int .i64 kind, .float .f64 N, .string S] 27
  have A1 : Arr (W.alloc (.cells #[.int .i64 kind, .float .f64 N, .string S] 27)) a m n came D := ⟨h.row.alloc _, h.own.alloc _⟩
  have b1 := (Below.refl W.heap.size W).alloc (Nat.le_refl _) (.cells #[.int .i64 kind, .float .f64 N, .string S] 27)
  have hsz : (W.alloc (.cells #[.int .i64 kind, .float .f64 N, .string S] 27)).heap.size = W.heap.size + 1 := World.size_alloc _ _
  have HAM := Lib.hid (show a < W.heap.size ∧ m < W.heap.size from ⟨h.row.lt, h.own.lt⟩)
  have c0 : (W.alloc (.cells #[.int .i64 kind, .float .f64 N, .string S] 27)).cell? ⟨a, 0, none⟩ = some (.map (some m)) := A1.row.cell 0
  have hl := look_run A1.own (s := s) (by unfold maxLen; omega) hat
  obtain ⟨W1, hW1⟩ : ∃ W1, W.alloc (.cells #[.int .i64 kind, .float .f64 N, .string S] 27) = W1 := ⟨_, rfl⟩
  rw [hW1] at X1 A1 b1 hsz
  have HW1 := Lib.hid hW1
  have CK := Lib.hid (kind_nil W1)
  have CA := Lib.hid (asAdd_any A1 s hs hn hc0 hc1)
  have CC := Lib.hid (fun W => copied_any kind N S W hS)
  have HX1 := Lib.hid X1
  have HB1 := Lib.hid b1
  have HSZ := Lib.hid hsz
  clear X1 A1 b1 hW1 h hat hsz
  obtain ⟨B, hB⟩ : ∃ B, W.heap.size = B := ⟨_, rfl⟩
  have HBB := Lib.hid hB
  rw [hB] at HX1 HSZ HAM HB1
  clear hB
  go_enter Tryz.func14, Tryz.ntmps14
  go_wp2_with fail
  rw [HW1.out]
  clear c0 hl
  refine (show Calls _ _ _ _ _ from CK.out).mono ?_
  rintro e w' ⟨rfl, rfl⟩
  go_wp2_with fail
  refine CA.out.mono ?_
  rintro e W2 ⟨el, rfl, hel, hA, hE, hO⟩
  have X2 := HX1.out.off2 hO (by have := HAM.out; omega) (by have := HAM.out; omega)
  obtain ⟨x0, x1, x2, _, _, _⟩ := X2.three
  clear X2
  have HA := Lib.hid hA
  have HE := Lib.hid hE
  have HO := Lib.hid ((Off2.of_below (a := a) (m := m) (by rw [HBB.out]; exact HB1.out)).trans hO)
  have hel2 : B < el := by have := HSZ.out; omega
  clear hA hE hO hel CK CA
  rw [HBB.out]
  go_wp2_with fail
  refine (CC.out _).mono ?_
  rintro e W3 ⟨rfl, h3⟩
  clear x0 x1 x2
  have hE3 := HE.out.below h3 HE.out.lt
  obtain ⟨⟨q0, q1, q2, q3, q4, q5⟩, ⟨r0, r1, r2, r3, r4, r5⟩⟩ := hE3.six
  have hst := as_store_float
  have HA3 := Lib.hid (HA.out.kept h3)
  have HO3 := Lib.hid (HO.out.trans (Off2.of_below h3))
  have HE3 := Lib.hid hE3
  clear hE3 h3 HA HE HO CC
  go_wp2_with fail
  go_ret
  have h1 : W.heap.size ≤ el := by have := HBB.out; omega
  have ha : a ≠ el := by have := HAM.out; omega
  have hm : m ≠ el := by have := HAM.out; omega
  exact ⟨rfl, ⟨el, h1, ((HA3.out.setCell (p := ⟨el, 2, none⟩) ha hm _).setCell (p := ⟨el, 3, none⟩) ha hm _).setCell (p := ⟨el, 4, none⟩) ha hm _, ((HE3.out.set (j := 2) (u := .int .i64 kind)).set (j := 3) (u := .float .f64 N)).set (j := 4) (u := .string S)⟩, ((HO3.out.fresh (p := ⟨el, 2, none⟩) h1 _).fresh (p := ⟨el, 3, none⟩) h1 _).fresh (p := ⟨el, 4, none⟩) h1 _⟩
/-- Set at a key that an array has. -/
theorem set_arr {W : World} {a m n e sb : Nat} {came : Int} {D : AD} (h : Arr W a m n came D) (s : ByteArray) (hs : s.size ≤ 281474976710656) (hat : D.atKey (klS s) (.held nilP) = .held (ptrB e)) {key : ByteArray} {num kd : Int} {M : Nat} {T : ByteArray} (hE : Elt W e key num kd M T (ptrB sb)) (kind : Int) (N : Nat) (S : ByteArray) :
    Calls Tryz.prog 14 #[ptrB a, .string s, .agg #[.int .i64 kind, .float .f64 N, .string S]] W fun e w' => e = .returned (.int .i64 80) ∧ Below W.heap.size W w' := by
  have b1 := (Below.refl W.heap.size W).alloc (Nat.le_refl _) (.cells #[.int .i64 kind, .float .f64 N, .string S] 27)
  have A1 := h.kept b1
  have E1 := hE.below b1 hE.lt
  have c0 : (W.alloc (.cells #[.int .i64 kind, .float .f64 N, .string S] 27)).cell? ⟨a, 0, none⟩ = some (.map (some m)) := A1.row.cell 0
  have hl := look_run A1.own (s := s) (by unfold maxLen; omega) hat
  have CK := Lib.hid (kind_arr E1)
  have HB1 := Lib.hid b1
  clear h hE A1 E1 b1 hat
  go_enter Tryz.func14, Tryz.ntmps14
  go_wp2_with fail
  refine (show Calls _ _ _ _ _ from CK.out).mono ?_
  rintro e w' ⟨rfl, rfl⟩
  go_wp2_with fail
  go_ret
  exact ⟨rfl, HB1.out⟩
end Go.Proofs.YtdliiohjbnlieaaGreatDoor

namespace Go.Proofs.YtdliiohjbnlieaaGreatDoor
open Go.RowKit Go.Lib Go.Maps

/-- Sub at a key that isn't there. -/
theorem sub_new {W : World} {a m n : Nat} {came : Int} {D : AD} (h : Arr W a m n came D) (s : ByteArray) (hs : s.size ≤ 281474976710656) (hn : n < maxLen) (hc0 : 0 ≤ came) (hc1 : came < 1000000) (hat : D.atKey (klS s) (.held nilP) = .held nilP) :
    Calls Tryz.prog 7 #[ptrB a, .string s] W fun e w' => ∃ el sb mb, e = .returned (.tuple #[ptrB sb, .int .i64 0]) ∧ W.heap.size ≤ el ∧ el < sb ∧ el < mb ∧ Arr w' a m (n + 1) (came + 1) (D.put (klS s) (.held (ptrB el))) ∧ Elt w' el s came 0 0 ⟨#[]⟩ (ptrB sb) ∧ Arr w' sb mb 0 0 (.map []) ∧ Off2 a m W w' := by
  have c0 : W.cell? ⟨a, 0, none⟩ = some (.map (some m)) := h.row.cell 0
  have hl := look_run h.own (s := s) (by unfold maxLen; omega) hat
  have HAM := Lib.hid (show a < W.heap.size ∧ m < W.heap.size from ⟨h.row.lt, h.own.lt⟩)
  have CK := Lib.hid (kind_nil W)
  have CA := Lib.hid (asAdd_any h s hs hn hc0 hc1)
  have CN := Lib.hid new_any
  clear h hat
  go_enter Tryz.func7, Tryz.ntmps7
  go_wp2_with fail
  clear c0 hl
  refine (show Calls _ _ _ _ _ from CK.out).mono ?_
  rintro e w' ⟨rfl, rfl⟩
  go_wp2_with fail
  refine CA.out.mono ?_
  rintro e W2 ⟨el, rfl, hel, hA, hE, hO⟩
  have HA := Lib.hid hA
  have HE := Lib.hid hE
  have HO := Lib.hid hO
  clear hA hE hO CK CA
  go_wp2_with fail
  refine (CN.out _).mono ?_
  rintro e W3 ⟨sb, mb, rfl, hN, hsb, hmb, h3⟩
  have hlt := HE.out.lt
  have h1 : el < sb := by omega
  have h2 : el < mb := by omega
  have hE3 := HE.out.below h3 hlt
  obtain ⟨⟨_, _, _, _, _, q5⟩, ⟨_, _, _, _, _, r5⟩⟩ := hE3.six
  have HA3 := Lib.hid (HA.out.kept h3)
  have HO3 := Lib.hid (HO.out.trans (Off2.of_below h3))
  have HE3 := Lib.hid hE3
  have HN := Lib.hid hN
  clear hE3 h3 HA HE HO CN hN hlt hsb hmb
  go_wp2_with fail
  go_ret2
  have ha : a ≠ el := by have := HAM.out; omega
  have hm : m ≠ el := by have := HAM.out; omega
  exact ⟨el, sb, mb, rfl, hel, h1, h2, HA3.out.setCell (p := ⟨el, 5, none⟩) ha hm _, HE3.out.set (j := 5) (u := ptrB sb), HN.out.setCell (p := ⟨el, 5, none⟩) (by simp; omega) (by simp; omega) _, HO3.out.fresh (p := ⟨el, 5, none⟩) hel _⟩
/-- Sub at a key that a value has. -/
theorem sub_val {W : World} {a m n e : Nat} {came : Int} {D : AD} (h : Arr W a m n came D) (s : ByteArray) (hs : s.size ≤ 281474976710656) (hat : D.atKey (klS s) (.held nilP) = .held (ptrB e)) {key : ByteArray} {num kd : Int} {M : Nat} {T : ByteArray} (hE : Elt W e key num kd M T nilP) :
    Calls Tryz.prog 7 #[ptrB a, .string s] W fun e w' => e = .returned (.tuple #[nilP, .int .i64 80]) ∧ W = w' := by
  have c0 : W.cell? ⟨a, 0, none⟩ = some (.map (some m)) := h.row.cell 0
  have hl := look_run h.own (s := s) (by unfold maxLen; omega) hat
  have CK := Lib.hid (kind_val hE)
  clear h hE hat
  go_enter Tryz.func7, Tryz.ntmps7
  go_wp2_with fail
  refine (show Calls _ _ _ _ _ from CK.out).mono ?_
  rintro e w' ⟨rfl, rfl⟩
  go_wp2_with fail
  go_ret2
  exact ⟨rfl, rfl⟩
end Go.Proofs.YtdliiohjbnlieaaGreatDoor

namespace Go.Proofs.YtdliiohjbnlieaaGreatDoor
open Go.RowKit Go.Lib Go.Maps

/-- How much an element counts, whatever has turned since. -/
def Counts (W : World) (e : Nat) (t : Int) : Prop := (∃ key num kd M T, Elt W e key num kd M T nilP ∧ t = 1) ∨ ∃ key num kd M T sb, Elt W e key num kd M T (ptrB sb) ∧ ∀ W', Below W.heap.size W W' → Calls Tryz.prog 11 #[ptrB sb] W' fun e w' => e = .returned (.int .i64 t) ∧ Below W'.heap.size W' w'
theorem at_next_mem {W : World} {m n : Nat} {es : List (Lit × AD)} (h : W.ownsMap Tryz.prog 9 asR m n (.map es)) : es.Pairwise (fun p q => p.1 ≠ q.1) ∧ ∀ p ∈ es, WideAt.IsKeyLit p.1 := by
  obtain ⟨es', h1, h2, h3⟩ := h.entries law_s
  injection h1 with h1
  subst h1
  exact ⟨h2, h3⟩
theorem totL_bd (T : Lit → Int) (left : Lit → Bool) : ∀ {es : List (Lit × AD)}, (∀ p ∈ es, 0 ≤ T p.1 ∧ T p.1 ≤ 1000) → 0 ≤ totL T left es ∧ totL T left es ≤ 1000 * (es.length : Int) := by
  intro es
  induction es with
  | nil => intro _; exact ⟨Int.le_refl 0, Int.le_refl 0⟩
  | cons p es ih =>
    intro h
    obtain ⟨h1, h2⟩ := ih (fun q hq => h q (List.mem_cons_of_mem _ hq))
    obtain ⟨g1, g2⟩ := h p (List.mem_cons_self ..)
    have e : totL T left (p :: es) = (if left p.1 = true then 0 else T p.1) + totL T left es := by unfold totL; rw [List.map_cons, List.sum_cons]
    rw [e, List.length_cons]
    split <;> omega
set_option maxHeartbeats 1000000 in
theorem total_any {W : World} {a m n : Nat} {came : Int} {es : List (Lit × AD)} (h : Arr W a m n came (.map es)) (T : Lit → Int) (hT : ∀ p ∈ es, 0 ≤ T p.1 ∧ T p.1 ≤ 1000) (hlen : es.length ≤ 1000000) (hE : ∀ p ∈ es, ∃ e, p.2 = .held (ptrB e) ∧ Counts W e (T p.1)) :
    Calls Tryz.prog 11 #[ptrB a] W fun e w' => e = .returned (.int .i64 (totA T es)) ∧ Below W.heap.size W w' := by
  have CH := Lib.hid (held_any h)
  obtain ⟨hap, hkey⟩ := at_next_mem h.own
  have HO := Lib.hid h.own
  have hm : m < W.heap.size := h.own.lt
  have HE := Lib.hid hE
  have HTT := Lib.hid hT
  clear h hE hT
  go_enter Tryz.func11, Tryz.ntmps11
  go_wp2_with fail
  refine CH.out.mono ?_
  rintro e w' ⟨rfl, rfl⟩
  have hown := HO.out
  go_wp2_with (first
    | (at_range; refine wpList_range_own _ rfl _ 47 rfl 9 49 law_s Tryz.underlying47 _ m n _ rfl hown ?_; intro w0 hrg0 hg0 hs0)
    | go_in)
  go_frame
  have HA := Lib.hid hap
  have HK := Lib.hid hkey
  have hB0 : Below W.heap.size W w0 := ⟨hg0.os, hg0.tape, hg0.output, hg0.size, fun i hi => hg0.block i hi (by simp)⟩
  clear hap hkey hg0 hs0 hown CH
  go_loopw [3, 5] (fun t _ wr => ∃ (left : Lit → Bool) (cnt : Nat), t = .int .i64 (totL T left es) ∧ wr.ranges Tryz.prog 9 asR m W.heap.size n (.map es) left cnt ∧ Below W.heap.size W wr) (fun _ _ wr => wr.rangeLeft m W.heap.size)
  case atStart => exact ⟨_, _, as_vint (totL_has T HK.out).symm, hrg0, hB0⟩
  case round =>
    clear hrg0 hB0
    obtain ⟨left, cnt, rfl, hrg, hB⟩ := hrel
    go_wp2_with (first
      | (at_next; refine wpList_next_ranges _ rfl _ rfl 9 law_s asR (fun v : Value => v) (fun v : Value => v) (fun key _ _ => ⟨key, rfl⟩) (fun v _ _ => ⟨v, rfl⟩) m W.heap.size n _ _ _ rfl hrg ?_ ?_)
      | go_in)
    · intro _ hl0
      have e : totL T left es = totA T es := totL_none T hl0 es
      rw [e]
      go_wp2
      go_ret
      exact ⟨rfl, hB⟩
    · intro x c kl y ps w1 cnt1 hkeq hlx hy hat hrg1 hlt hg1 hs1 hen
      have hk : WideAt.IsKeyLit kl := law_s.key hkeq
      obtain ⟨q, hq, hq1, hq2⟩ := mem_of_at hk HA.out hat
      obtain ⟨el, he1, he2⟩ := HE.out q hq
      have hc : c = ptrB el := by
        unfold asR at hy
        simp only [Option.some.injEq, Prod.mk.injEq] at hy
        have h2 := hy.1.trans (hq2.symm.trans he1)
        injection h2
      subst hc
      have hst : totL T (fun z => left z && !z.sameKey kl) es = totL T left es + T kl := totL_strike T hlx HA.out HK.out ⟨q, hq, hq1⟩
      have hb1 := totL_bd T left HTT.out
      have hb2 := totL_bd T (fun z => left z && !z.sameKey kl) HTT.out
      rw [hst] at hb2
      have HST := Lib.hid hst
      have hB1 : Below W.heap.size W w1 := hB.grown hg1 hB.size (fun z e => by injection e with e; omega)
      have hle := hrg.left_eq
      have HL := Lib.hid hle
      rw [hq1] at he2
      have HRG := Lib.hid hrg1
      have HB1 := Lib.hid hB1
      have hlen2 : (es.length : Int) ≤ 1000000 := by omega
      obtain ⟨t, ht⟩ : ∃ t, T kl = t := ⟨_, rfl⟩
      obtain ⟨u, hu⟩ : ∃ u, totL T left es = u := ⟨_, rfl⟩
      rw [ht] at hb2 he2
      rw [hu] at hb1 hb2 ⊢
      have HT2 := Lib.hid ht
      have HU := Lib.hid hu
      clear hk hq hq1 hq2 he1 hy hst hat hkeq hlx hg1 hs1 hrg hrg1 hB hB1 hle ht hu
      rcases he2 with ⟨key, num, kd, M, S, hE, rfl⟩ | ⟨key, num, kd, M, S, sb, hE, hC⟩
      · have CK := Lib.hid (kind_val (hE.below HB1.out hE.lt))
        clear hE
        go_wp2_with fail
        refine (show Calls _ _ _ _ _ from CK.out).mono ?_
        rintro e w' ⟨rfl, rfl⟩
        go_wp2_with fail
        go_roundw
        case rel => exact ⟨_, _, as_vint (by rw [HST.out, HU.out, HT2.out]), HRG.out, HB1.out⟩
        case measure => rw [HRG.out.left_eq, HL.out]; omega
      · have hE1 := hE.below HB1.out hE.lt
        have CK := Lib.hid (kind_arr hE1)
        have CC := Lib.hid (hC _ HB1.out)
        obtain ⟨⟨_, _, _, _, _, q5⟩, _⟩ := hE1.six
        clear hE hE1 hC
        go_wp2_with fail
        refine (show Calls _ _ _ _ _ from CK.out).mono ?_
        rintro e w' ⟨rfl, rfl⟩
        go_wp2_with fail
        refine CC.out.mono ?_
        rintro e w2 ⟨rfl, h2⟩
        have HB2 := Lib.hid (HB1.out.trans (h2.mono HB1.out.size))
        have HRG2 := Lib.hid (HRG.out.kept (below_grown h2) (by simp) (by simp))
        clear q5 h2 hen
        go_wp2_with fail
        go_roundw
        case rel => exact ⟨_, _, as_vint (by rw [HST.out, HU.out, HT2.out]), HRG2.out, HB2.out⟩
        case measure => rw [HRG2.out.left_eq, HL.out]; omega
end Go.Proofs.YtdliiohjbnlieaaGreatDoor

namespace Go.Proofs.YtdliiohjbnlieaaGreatDoor
open Go.RowKit Go.Lib Go.Maps

theorem total_one {W : World} {a m n e : Nat} {came : Int} {k : ByteArray} (h : Arr W a m n came (.map [(klS k, .held (ptrB e))])) {t : Int} (ht : 0 ≤ t ∧ t ≤ 1000) (hC : Counts W e t) : Calls Tryz.prog 11 #[ptrB a] W fun e w' => e = .returned (.int .i64 t) ∧ Below W.heap.size W w' := by
  have := total_any h (fun _ => t) (fun p _ => ht) (by simp) (fun p hp => by
    rw [List.mem_singleton] at hp
    subst hp
    exact ⟨e, rfl, hC⟩)
  have e1 : totA (fun _ => t) [(klS k, .held (ptrB e))] = t := by unfold totA; simp
  rw [e1] at this
  exact this
def kX : ByteArray := ⟨#[120]⟩
def kY : ByteArray := ⟨#[121]⟩
def kZ : ByteArray := ⟨#[122]⟩
theorem d_xy (u v : AD) : ((DataW.map [(klS kX, u)] : AD).put (klS kY) v) = .map [(klS kX, u), (klS kY, v)] := by rfl
theorem d_xn (u z : AD) : (DataW.map [(klS kX, u)] : AD).atKey (klS kY) z = z := by rfl
theorem d_x (u v z : AD) : (DataW.map [(klS kX, u), (klS kY, v)] : AD).atKey (klS kX) z = u := by rfl
theorem d_y (u v z : AD) : (DataW.map [(klS kX, u), (klS kY, v)] : AD).atKey (klS kY) z = v := by rfl
set_option maxRecDepth 100000 in
set_option maxHeartbeats 4000000 in
theorem asFixed_any (w : World) : Calls Tryz.prog 4 #[] w fun e w' => e = .returned (.bool true) ∧ Below w.heap.size w w' := by
  have CN := Lib.hid (new_any w)
  obtain ⟨B, hB⟩ : ∃ B, w.heap.size = B := ⟨_, rfl⟩
  rw [hB] at CN ⊢
  have HB := Lib.hid hB
  clear hB
  go_enter Tryz.func4, Tryz.ntmps4
  go_wp2_with fail
  refine CN.out.mono ?_
  rintro e W1 ⟨a, m, rfl, hA, ha, hm, h1⟩
  have HA1 := Lib.hid hA
  have HB1 := Lib.hid h1
  have hB1 : B ≤ W1.heap.size := by have := h1.size; have := HB.out; omega
  clear hA h1 CN
  go_wp2_with fail
  refine (asOf_any 4607182418800017408 W1).mono ?_
  rintro e W2 ⟨rfl, h2⟩
  have HA2 := Lib.hid (HA1.out.kept h2)
  have HB2 := Lib.hid (HB1.out.trans (h2.mono hB1))
  have hB2 : B ≤ W2.heap.size := Nat.le_trans hB1 h2.size
  clear h2 HA1 HB1 hB1
  go_wp2_with fail
  refine (set_new HA2.out kX (by decide) (by decide) (by decide) (by decide) rfl 1 4607182418800017408 ⟨#[]⟩ (by decide)).mono ?_
  rintro e W3 ⟨rfl, ⟨e1, he1, hA, hE1⟩, hO⟩
  have HA3 := Lib.hid (show Arr W3 a m 1 1 (.map [(klS kX, .held (ptrB e1))]) from hA)
  have HE3 := Lib.hid hE1
  have HB3 := Lib.hid (HB2.out.trans (hO.below ha hm hB2))
  have hB3 : B ≤ W3.heap.size := Nat.le_trans hB2 hO.size
  have hae1 : a < e1 ∧ m < e1 ∧ B ≤ e1 ∧ e1 < W3.heap.size := ⟨by have := HA2.out.row.lt; omega, by have := HA2.out.own.lt; omega, by omega, hE1.lt⟩
  clear hA hE1 hO HA2 HB2 hB2 he1
  go_wp2_with fail
  refine (sub_new HA3.out kY (by decide) (by decide) (by decide) (by decide) (d_xn _ _)).mono ?_
  rintro e W4 ⟨e2, b, mb, rfl, he2, hb, hmb, hA, hE2, hBb, hO⟩
  rw [d_xy] at hA
  have HA4 := Lib.hid hA
  have HE4 := Lib.hid (HE3.out.off2 hO (by omega) (by omega))
  have HF4 := Lib.hid hE2
  have HBA4 := Lib.hid hBb
  have HB4 := Lib.hid (HB3.out.trans (hO.below ha hm hB3))
  have hB4 : B ≤ W4.heap.size := Nat.le_trans hB3 hO.size
  have hord : a < e2 ∧ m < e2 ∧ e1 < e2 ∧ B ≤ e2 ∧ B ≤ b ∧ B ≤ mb := by omega
  clear hA hE2 hBb hO HA3 HE3 HB3 hB3 he2
  go_wp2_with fail
  refine (asText_any ⟨#[116]⟩ W4).mono ?_
  rintro e W5 ⟨rfl, h5⟩
  have HA5 := Lib.hid (HA4.out.kept h5)
  have HE5 := Lib.hid (HE4.out.below h5 HE4.out.lt)
  have HF5 := Lib.hid (HF4.out.below h5 HF4.out.lt)
  have HBA5 := Lib.hid (HBA4.out.kept h5)
  have HB5 := Lib.hid (HB4.out.trans (h5.mono hB4))
  have hB5 : B ≤ W5.heap.size := Nat.le_trans hB4 h5.size
  clear h5 HA4 HE4 HF4 HBA4 HB4 hB4
  go_wp2_with fail
  refine (set_new HBA5.out kZ (by decide) (by decide) (by decide) (by decide) rfl 2 0 ⟨#[116]⟩ (by decide)).mono ?_
  rintro e W6 ⟨rfl, ⟨e3, he3, hA, hE3⟩, hO⟩
  have HA6 := Lib.hid (HA5.out.off2 hO (by omega) (by omega) (by omega) (by omega))
  have HE6 := Lib.hid (HE5.out.off2 hO (by omega) (by omega))
  have HF6 := Lib.hid (HF5.out.off2 hO (by omega) (by omega))
  have HBA6 := Lib.hid (show Arr W6 b mb 1 1 (.map [(klS kZ, .held (ptrB e3))]) from hA)
  have HG6 := Lib.hid hE3
  have HB6 := Lib.hid (HB5.out.trans (hO.below hord.2.2.2.2.1 hord.2.2.2.2.2 hB5))
  have hB6 : B ≤ W6.heap.size := Nat.le_trans hB5 hO.size
  clear hA hE3 hO HA5 HE5 HF5 HBA5 HB5 hB5 he3
  go_wp2_with fail
  refine (sub_val HA6.out kX (by decide) (d_x _ _ _) HE6.out).mono ?_
  rintro e w' ⟨rfl, rfl⟩
  go_wp2_with fail
  refine (set_arr HA6.out kY (by decide) (d_y _ _ _) HF6.out 0 0 ⟨#[]⟩).mono ?_
  rintro e W7 ⟨rfl, h7⟩
  have HA7 := Lib.hid (HA6.out.kept h7)
  have HE7 := Lib.hid (HE6.out.below h7 HE6.out.lt)
  have HF7 := Lib.hid (HF6.out.below h7 HF6.out.lt)
  have HBA7 := Lib.hid (HBA6.out.kept h7)
  have HG7 := Lib.hid (HG6.out.below h7 HG6.out.lt)
  have HB7 := Lib.hid (HB6.out.trans (h7.mono hB6))
  have hB7 : B ≤ W7.heap.size := Nat.le_trans hB6 h7.size
  clear h7 HA6 HE6 HF6 HBA6 HB6 hB6 HG6
  go_wp2_with fail
  refine (asLen_any HA7.out).mono ?_
  rintro e w' ⟨rfl, rfl⟩
  go_wp2_with fail
  refine (total_any HA7.out (fun _ => 1) (fun _ _ => ⟨by decide, by decide⟩) (by simp) (fun p hp => by
    rcases List.mem_cons.1 hp with rfl | hp
    · exact ⟨e1, rfl, Or.inl ⟨_, _, _, _, _, HE7.out, rfl⟩⟩
    · rw [List.mem_singleton] at hp
      subst hp
      exact ⟨e2, rfl, Or.inr ⟨_, _, _, _, _, b, HF7.out, fun W' hb => total_one (HBA7.out.kept hb) ⟨by decide, by decide⟩ (Or.inl ⟨_, _, _, _, _, HG7.out.below hb HG7.out.lt, rfl⟩)⟩⟩)).mono ?_
  rintro e W8 ⟨rfl, h8⟩
  have HB8 := Lib.hid (HB7.out.trans (h8.mono hB7))
  have HA8 := Lib.hid (HA7.out.kept h8)
  have HF8 := Lib.hid (HF7.out.below h8 HF7.out.lt)
  clear h8 HA7 HE7 HF7 HBA7 HG7 HB7
  go_wp2_with fail
  refine (kindKey_any HA8.out kY (by decide) (d_y _ _ _) (kind_arr HF8.out)).mono ?_
  rintro e w' ⟨rfl, rfl⟩
  go_wp2_with fail
  go_ret
  exact ⟨rfl, by rw [← HB.out]; have := HB8.out; rw [← HB.out] at this; exact this⟩
end Go.Proofs.YtdliiohjbnlieaaGreatDoor

namespace Go.Proofs.YtdliiohjbnlieaaGreatDoor
open Go.RowKit Go.Lib

theorem allNil_any (W : World) : Calls Tryz.prog 9 #[nilP] W fun e w' => ∃ B A cap, e = .returned (.func (.func 35) #[] #[.pointer (some ⟨B, 0, none⟩)]) ∧ W.heap.size ≤ B ∧ Blk w' B #[.slice A 0 cap] 56 ∧ Below W.heap.size W w' := by
  have CE := Lib.hid (nilEntries_any W)
  go_enter Tryz.func9, Tryz.ntmps9
  go_wp2_with fail
  refine CE.out.mono ?_
  rintro e W1 ⟨A, cap, rfl, hb⟩
  have HB := Lib.hid hb
  have hs := hb.size
  clear hb CE
  have CA : Calls Tryz.prog 25 #[.slice A 0 cap] W1 fun e w' => e = .returned (.func (.func 35) #[] #[.pointer (some ⟨W1.heap.size, 0, none⟩)]) ∧ W1.alloc (.cells #[.slice A 0 cap] 56) = w' := by
    go_enter Tryz.func25, Tryz.ntmps25
    go_wp2_with fail
    go_ret
    exact ⟨rfl, rfl⟩
  have CA := Lib.hid CA
  go_wp2_with fail
  refine CA.out.mono ?_
  rintro e w' ⟨rfl, rfl⟩
  go_wp2_with fail
  go_ret
  exact ⟨_, _, _, rfl, hs, Blk.new W1 _ _, HB.out.alloc hs _⟩
set_option maxRecDepth 100000 in
set_option maxHeartbeats 1000000 in
theorem allNil_stops (n : Nat) (B : Nat) (A : Option Addr) (cap : Nat) (v : Value) (w : World) (h1 : w.cell? ⟨B, 0, none⟩ = some (.slice A 0 cap)) :
    SeqStopsK Fence.wide n Tryz.prog 35 #[.pointer (some ⟨B, 0, none⟩)] (fun _ : Unit => #[.int .i64 0, v]) (fun _ _ => True) (fun xs => xs = []) (fun _ => False) 0 w := fun l J Jx W hW hJ hJx hY h0 => by
  have c1 : W.cell? ⟨B, 0, none⟩ = some (.slice A 0 cap) := (hW.cell (p := ⟨B, 0, none⟩) (World.block_lt_of_cell? w _ h1)).trans h1
  have HJ := Lib.hid h0
  clear h1 hW hJ hJx hY h0
  refine callsIn_of_wp Tryz.func35 rfl trivial ?_ rfl
  simp only [Tryz.ntmps35, List.size_toArray, List.length_cons, List.length_nil, Nat.reduceAdd, Nat.reduceSub, Array.replicate_succ, Array.replicate_zero, List.push_toArray, List.append_toArray, List.nil_append, List.cons_append]
  gi_wp2
  gi_loopw [7] (fun v wr => v = .int .i64 0 ∧ wr = W) (fun _ _ => 0)
  case atStart => exact ⟨rfl, rfl⟩
  case round =>
    obtain ⟨rfl, rfl⟩ := hrel
    gi_wp2
    go_end0
    exact ⟨⟨_, rfl⟩, .inl ⟨_, rfl, HJ.out⟩⟩
end Go.Proofs.YtdliiohjbnlieaaGreatDoor

namespace Go.Proofs.YtdliiohjbnlieaaGreatDoor
open Go.RowKit Go.Lib

set_option maxRecDepth 100000 in
theorem cellSame0_any (w : World) : Calls Tryz.prog 13 #[.agg #[.int .i64 0, .float .f64 0, .string ⟨#[]⟩], .agg #[.int .i64 0, .float .f64 0, .string ⟨#[]⟩]] w fun e w' => e = .returned (.bool true) ∧ Below w.heap.size w w' := by
  have CS := Lib.hid (fun W => same_true 0 0 W (by omega) (by omega) rfl)
  have F := (Blk.new w #[.int .i64 0, .float .f64 0, .string ⟨#[]⟩] 27).alloc (.cells #[.int .i64 0, .float .f64 0, .string ⟨#[]⟩] 27)
  have G := Blk.new (w.alloc (.cells #[.int .i64 0, .float .f64 0, .string ⟨#[]⟩] 27)) #[.int .i64 0, .float .f64 0, .string ⟨#[]⟩] 27
  rw [World.size_alloc] at G
  have hb := ((Below.refl w.heap.size w).alloc (Nat.le_refl _) (.cells #[.int .i64 0, .float .f64 0, .string ⟨#[]⟩] 27)).alloc (by simp) (.cells #[.int .i64 0, .float .f64 0, .string ⟨#[]⟩] 27)
  obtain ⟨q0, q1, q2, r0, r1, r2⟩ := F.three
  obtain ⟨u0, u1, u2, s0, s1, s2⟩ := G.three
  have HB := Lib.hid hb
  clear F G hb
  go_enter Tryz.func13, Tryz.ntmps13
  go_wp2_with fail
  refine (CS.out _).mono ?_
  rintro e w' ⟨rfl, rfl⟩
  go_wp2_with fail
  go_ret
  exact ⟨rfl, HB.out⟩
end Go.Proofs.YtdliiohjbnlieaaGreatDoor

namespace Go.Proofs.YtdliiohjbnlieaaGreatDoor
open Go.RowKit Go.Lib Go.Shelf
attribute [local go_sem] Oper.semAt_some

set_option maxRecDepth 100000 in
set_option maxHeartbeats 40000000 in
theorem assocNil_in (s : ByteArray) (hs : s.size ≤ maxLen) (w : World) :
    CallsIn Fence.wide 10 Tryz.prog 3 #[.string s] w fun e w' => e = .returned (.bool true) ∧ Below w.heap.size w w' := by
  have CF := Lib.hid (asFixed_any w)
  have CC := Lib.hid (fun W => nilClear_any W)
  have CG := Lib.hid (fun W => nilGet_any s hs W)
  have CU := Lib.hid (fun W => nilSub_any s W)
  have CK := Lib.hid (fun W => nilKeys_any ⟨#[]⟩ W (fun w => nilEntries_any w))
  have CA := Lib.hid (fun W => allNil_any W)
  have CL := Lib.hid (fun W => nilLen_any W)
  have CT := Lib.hid (fun W => nilTotal_any W)
  have CI := Lib.hid (fun W => nilKind_any s hs W)
  have CS := Lib.hid (fun W => cellSame0_any W)
  have CSet := Lib.hid (fun W => nilSet_any s 0 0 ⟨#[]⟩ W)
  have CD := Lib.hid (fun W => nilDelete_any s hs W)
  have hst := as_store_float
  refine callsIn_of_wp_marks Tryz.func3 rfl trivial ?_ rfl
  simp only [Tryz.ntmps3, List.size_toArray, List.length_cons, List.length_nil, Nat.reduceAdd, Nat.reduceSub, Array.replicate_succ, Array.replicate_zero, List.push_toArray, List.append_toArray, List.nil_append, List.cons_append]
  gi_wp2_with fail
  refine ⟨trivial, (callsIn_wide.2 CF.out).mono ?_⟩
  rintro e W1 ⟨rfl, hb1⟩
  have HB1 := Lib.hid hb1
  have hs1 := hb1.size
  clear hb1 CF
  gi_wp2_with fail
  refine ⟨trivial, (callsIn_wide.2 (CC.out _)).mono ?_⟩
  rintro e W2 ⟨⟨r, rfl⟩, rfl⟩
  gi_wp2_with fail
  refine ⟨trivial, (callsIn_wide.2 (CG.out _)).mono ?_⟩
  rintro e W2 ⟨rfl, hb2⟩
  have HB2 := Lib.hid (HB1.out.trans (hb2.mono hs1))
  have hs2 := hb2.size
  have FC := Blk.new W2 #[.int .i64 0, .float .f64 0, .string ⟨#[]⟩] 27
  have HFC := Lib.hid FC
  clear hb2 HB1 CC CG FC
  gi_wp2_with fail
  refine ⟨trivial, (callsIn_wide.2 (CU.out _)).mono ?_⟩
  rintro e W3 ⟨rfl, rfl⟩
  gi_wp2_with fail
  refine ⟨trivial, (callsIn_wide.2 (CK.out _)).mono ?_⟩
  rintro e W4 ⟨A4, cap4, rfl, hb4⟩
  have hb4' : Below W2.heap.size W2 W4 := ((Below.refl _ _).alloc (Nat.le_refl _) _).trans (hb4.mono (by simp))
  have hs12 : w.heap.size ≤ W2.heap.size := Nat.le_trans hs1 hs2
  have HB4 := Lib.hid (HB2.out.trans (hb4'.mono hs12))
  have F4 := HFC.out.below hb4 (by simp)
  have hs4 := hb4'.size
  have HF4 := Lib.hid F4
  have hlt4 := F4.lt
  clear hb4 hb4' HB2 HFC CK F4
  gi_wp2_with fail
  refine ⟨trivial, (callsIn_wide.2 (CA.out _)).mono ?_⟩
  rintro e W5 ⟨B, A5, cap5, rfl, hB5, hblk5, hb5⟩
  have c5 : W5.cell? ⟨B, 0, none⟩ = some (.slice A5 0 cap5) := hblk5.cell 0
  have x4 := Boxed.new W4 3 (.int .i64 0)
  have x5 : Boxed W5 W4.heap.size 3 (.int .i64 0) := (hb5.block W4.heap.size (by simp)).trans x4
  have hb5' : Below W4.heap.size W4 W5 := ((Below.refl _ _).alloc (Nat.le_refl _) _).trans (hb5.mono (by simp))
  have F5 := HF4.out.below hb5' hlt4
  have b5 := HB4.out.trans (hb5'.mono (by omega))
  have SV := Lib.hid (allNil_stops 9 B A5 cap5 (.agg #[.string ⟨#[]⟩, .int .i64 0, .float .f64 0, .string ⟨#[]⟩, .bool false]) W5 c5)
  have X5 := Lib.hid x5
  have HF5 := Lib.hid F5
  have HB5 := Lib.hid b5
  have hs5 := hb5'.size
  clear x5 F5 b5 hb5 hb5' c5 x4 hblk5 CA HB4 HF4
  gi_wp2
  refine wpIn_rangeFunc_ownF rfl (by omega) (gf := 35) (lb := #[.pointer (some ⟨B, 0, none⟩)]) rfl trivial (enters_of Tryz.func35 (by kernel_rfl) rfl)
    SV.out (fun _ _ => trivial) (fun _ _ _ _ _ _ _ _ => trivial) (Below.refl _ _) (fun _ => rfl)
    (fun _ W => (Boxed W W4.heap.size 3 (.int .i64 0) ∧ Blk W W2.heap.size #[.int .i64 0, .float .f64 0, .string ⟨#[]⟩] 27) ∧ Below w.heap.size w W) (fun _ _ _ => False) ?hI ?hIx ⟨⟨X5.out, HF5.out⟩, HB5.out⟩
    (fun _ => { tmps := #[.string s, undef, .bool false, .pointer none, .pointer (some ⟨W2.heap.size, 0, none⟩), .bool false, nilP, .int .i64 2, .slice A4 0 cap4, .int .i64 0, .pointer (some ⟨W4.heap.size, 0, none⟩), .bool true, .bool false, .pointer none, r,
      .tuple #[.agg #[.int .i64 0, .float .f64 0, .string ⟨#[]⟩], .bool false], .pointer none, .string s, .tuple #[.agg #[.int .i64 0, .float .f64 0, .string ⟨#[]⟩], .bool false], .agg #[.int .i64 0, .float .f64 0, .string ⟨#[]⟩], .bool false, .tuple #[nilP, .int .i64 2], .pointer none, .string s, .tuple #[nilP, .int .i64 2], nilP, .int .i64 2,
      .tuple #[.slice A4 0 cap4, .int .i64 0], .pointer none, .tuple #[.slice A4 0 cap4, .int .i64 0], .slice A4 0 cap4, .int .i64 0, .pointer none, .func (.func 35) #[] #[.pointer (some ⟨B, 0, none⟩)], .int .i64 0, .agg #[.string ⟨#[]⟩, .int .i64 0, .float .f64 0, .string ⟨#[]⟩, .bool false], undef, undef, undef, undef, undef, undef, undef, undef, undef, undef, undef, undef, undef, undef, undef, undef, undef, undef, undef, undef, undef, undef, undef, undef, undef, undef, undef, undef, undef, undef, undef, undef, undef, undef, undef, undef, undef, undef, undef, undef, undef, undef, undef, undef, undef, undef, undef, undef, undef, undef, undef, undef, undef], defers := [] }) ?assign ?body ?done ?stop
  case hI =>
    refine OwnFrom.and (Own.from (fun st A C row hs hg hr => ?_) _) (ownFrom_below (Nat.le_refl _) (by have := HB5.out.size; omega))
    refine ⟨hs.1.kept hg (fun e => ?_), ?_⟩
    · obtain ⟨o, ho, hc⟩ := hr _ e.symm
      rw [show A.heap[W4.heap.size]? = _ from hs.1] at ho
      cases ho
      cases hc
    · refine Blk.grown hs.2 hg (fun e => ?_)
      obtain ⟨o, ho, hc⟩ := hr _ e.symm
      rw [show A.heap[W2.heap.size]? = _ from hs.2.row] at ho
      cases ho
      cases hc
  case hIx => exact fun _ _ _ _ _ hs _ _ => hs
  case assign =>
    intro l k W K hK
    gi_wp2
    first
      | exact hK
      | (rw [Oper.semAt_some _ _ _ (by intro c h; cases h)]
         simp [execOp, Oper.uponIn, go_sem, Act.eval, Act.put]
         rename_i ha
         exact ha _ _ hK)
  case body =>
    intro _ _ _ _ _ h
    exact absurd h (Nat.not_lt_zero _)
  case done =>
    rintro D xs W hD rfl ⟨⟨b0, bC⟩, hB⟩ hK
    have c := b0.cell
    have HB := Lib.hid hB
    have BC := Lib.hid bC
    obtain ⟨q0, q1, q2, _⟩ := bC.three
    have hD2 : w.heap.size ≤ D := by have := HB5.out.size; omega
    clear hB b0 bC SV X5 HF5 HB5 hD
    gi_wp2
    have KP := Lib.hid (fun (Y : World) (hb : Below W.heap.size W Y) => show Y.cell? ⟨W4.heap.size, 0, none⟩ = some (.int .i64 0) ∧ Y.cell? ⟨W2.heap.size, 0, none⟩ = some (.int .i64 0) ∧ Y.cell? ⟨W2.heap.size, 1, none⟩ = some (.float .f64 0) ∧ Y.cell? ⟨W2.heap.size, 2, none⟩ = some (.string ⟨#[]⟩) from
      ⟨(hb.cell (p := ⟨W4.heap.size, 0, none⟩) (lt_of_cell c)).trans c, (hb.cell (p := ⟨W2.heap.size, 0, none⟩) (lt_of_cell q0)).trans q0, (hb.cell (p := ⟨W2.heap.size, 1, none⟩) (lt_of_cell q1)).trans q1, (hb.cell (p := ⟨W2.heap.size, 2, none⟩) (lt_of_cell q2)).trans q2⟩)
    refine wpIn_wide.2 ?_
    go_region_held3 (fun w' => w'.cell? ⟨W4.heap.size, 0, none⟩ = some (.int .i64 0) ∧ w'.cell? ⟨W2.heap.size, 0, none⟩ = some (.int .i64 0) ∧ w'.cell? ⟨W2.heap.size, 1, none⟩ = some (.float .f64 0) ∧ w'.cell? ⟨W2.heap.size, 2, none⟩ = some (.string ⟨#[]⟩))
      (first | (with_reducible exact S8) | (with_reducible exact S7) | (with_reducible exact S6) | go_keep)
      (first
      | (go_at_call 10; (with_reducible refine (CL.out _).mono ?_); rintro e X5 ⟨rfl, rfl⟩)
      | (go_at_call 11; (with_reducible refine (CT.out _).mono ?_); rintro e X6 ⟨rfl, h⟩; have b6 : Below W.heap.size W X6 := ⟨h.os, h.tape, h.output, h.size, h.block⟩; have S6 := KP.out _ b6; clear h)
      | (go_at_call 12; (with_reducible refine (CI.out _).mono ?_); rintro e X5 ⟨rfl, rfl⟩)
      | (go_at_call 13; (with_reducible refine (CS.out _).mono ?_); rintro e X7 ⟨rfl, h⟩; have b7 : Below W.heap.size W X7 := b6.trans ((⟨h.os, h.tape, h.output, h.size, h.block⟩ : Below X6.heap.size X6 X7).mono b6.size); have S7 := KP.out _ b7; clear h)
      | (go_at_call 14; (with_reducible refine (CSet.out _).mono ?_); rintro e X8 ⟨rfl, h⟩; have b8 : Below W.heap.size W X8 := b7.trans ((⟨h.os, h.tape, h.output, h.size, h.block⟩ : Below X7.heap.size X7 X8).mono b7.size); have S8 := KP.out _ b8; clear h)
      | (go_at_call 15; (with_reducible refine (CD.out _).mono ?_); rintro e X5 ⟨rfl, rfl⟩))
    all_goals
      rename_i K ha h9 hH
      have kD := (b8.block D (Array.getElem?_eq_some_iff.1 hK).1).trans hK
      have HB8 := Lib.hid (HB.out.trans (b8.mono HB.out.size))
      clear b8 S8 S7 S6 b6 b7 hH KP hK c
      show K _ _
      refine ha _ _ ?_
      gi_wp2
      refine ⟨by simp, .inl ⟨_, _, rfl, run_takeDeferred kD, .bool true, by simp [results, Tryz.results3, go_sem], rfl, HB8.out.trans (belowK_b (w := w) (Nat.le_refl _) _ D _ _ hD2 kD rfl rfl)⟩⟩
  case stop =>
    rintro D c pre W _ h
    exact h.elim
theorem assocNil_any (s : ByteArray) (hs : s.size ≤ maxLen) (w : World) : Calls Tryz.prog 3 #[.string s] w fun e w' => e = .returned (.bool true) ∧ Below w.heap.size w w' := callsIn_wide.1 (assocNil_in s hs w)
end Go.Proofs.YtdliiohjbnlieaaGreatDoor
