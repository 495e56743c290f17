/- Several texts in one (Contracts of layer 11: part, way by way; Contracts of layer 5's Text where it is refused, and of the definition's Check and Text; the walk of the law FormatTexts; Contracts of layer 11: part; Contracts of layer 11: a text up to its first percent sign; step; Sprintf; Contracts of layer 11: step, way by way; Plain: texts whose percent signs are doubled; strings by s, one behind the other). -/
import Derived.Lib.IndexLaws
import Derived.Test.YtddfigbpckhfbaaGreatDoorQpt3
import Derived.Test.YtddfigbpckhfbaaGreatDoorQpt5
import Derived.Test.YtddfigbpckhfbaaGreatDoorQpt9
import Derived.Test.YtddfigbpckhfbaaGreatDoorQpt10
import Derived.Test.YtddfigbpckhfbaaGreatDoorQpt12
namespace Go.Proofs.YtddfigbpckhfbaaGreatDoor
open Go.RowKit Go.Lib

abbrev spi (m p b a z : Bool) (wd pr c : Int) : Array Value := #[.bool m, .bool p, .bool b, .bool a, .bool z, .int .i64 wd, .int .i64 pr, .int .u8 c]
abbrev pci (m p b a z : Bool) (wd pr c : Int) (sw sp : Bool) (nx : Nat) : Array Value := #[.bool m, .bool p, .bool b, .bool a, .bool z, .int .i64 wd, .int .i64 pr, .int .u8 c, .bool sw, .bool sp, .int .i64 (nx : Int)]
set_option maxRecDepth 100000 in
set_option maxHeartbeats 8000000 in
theorem part_sbad (W : World) (g : Nat) (m0 p b a z : Bool) (wd0 pr0 : Int) (c : Int) (sw sp : Bool) (nx : Nat) (P : World → Prop) (hP : ∀ W W', P W → Below W.heap.size W W' → P W') (hS : ∀ W', Below W.heap.size W W' → Calls Tryz.prog 143 #[.pointer (some ⟨g, 0, none⟩), (.agg (pci m0 p b a z wd0 pr0 c sw sp nx))] W' fun e w' => e = .returned (.tuple #[.agg zs, .int .i64 50]) ∧ P w') :
    Calls Tryz.prog 96 #[.pointer (some ⟨g, 0, none⟩), (.agg (pci m0 p b a z wd0 pr0 c sw sp nx))] W fun e w' => ∃ r, e = .returned (.tuple #[.string r, .int .i64 50]) ∧ P w' := by
  have hBA := (Below.refl W.heap.size W).alloc (Nat.le_refl _) (.cells (pci m0 p b a z wd0 pr0 c sw sp nx) 96)
  have CS := Lib.hid (hS _ hBA)
  have FA := Five.new W (pci m0 p b a z wd0 pr0 c sw sp nx) 96
  obtain ⟨a0, a1, a2, a3, a4, a5, a6, a7, a8, a9, a10⟩ := FA.eleven.1
  have HP := Lib.hid hP
  clear hS hBA FA hP
  go_enter Tryz.func96, Tryz.ntmps96
  go_wp2_with fail
  refine CS.out.mono ?_
  rintro e W2 ⟨rfl, hp⟩
  have HP2 := Lib.hid (HP.out _ _ hp ((Below.refl W2.heap.size W2).alloc (Nat.le_refl _) (.cells zs 94)))
  clear hp
  go_wp2_with fail
  go_ret2
  exact ⟨_, rfl, HP2.out⟩
/-- What sized gives: how the part is written, and P1. -/
def SzOk (W : World) (g : Nat) (m0 p b a z : Bool) (wd0 pr0 : Int) (c : Int) (sw sp : Bool) (nx : Nat) (m : Bool) (wd pr : Int) (P1 : World → Prop) : Prop := ∀ W', Below W.heap.size W W' → Calls Tryz.prog 143 #[.pointer (some ⟨g, 0, none⟩), (.agg (pci m0 p b a z wd0 pr0 c sw sp nx))] W' fun e w' => e = .returned (.tuple #[.agg (spi m p b a z wd pr c), .int .i64 0]) ∧ P1 w'
def Going (P : World → Prop) : Prop := ∀ W W', P W → Below W.heap.size W W' → P W'
set_option maxRecDepth 100000 in
set_option maxHeartbeats 8000000 in
theorem part_pct (W : World) (g : Nat) (m0 p b a z : Bool) (wd0 pr0 : Int) (c : Int) (sw sp : Bool) (nx : Nat) (m : Bool) (wd pr : Int) (P1 : World → Prop) (hP : Going P1) (hS : SzOk W g m0 p b a z wd0 pr0 c sw sp nx m wd pr P1) (hc : c = 37) :
    Calls Tryz.prog 96 #[.pointer (some ⟨g, 0, none⟩), (.agg (pci m0 p b a z wd0 pr0 c sw sp nx))] W fun e w' => e = .returned (.tuple #[.string ⟨#[37]⟩, .int .i64 (if chkB wd pr 37 = true then 0 else 50)]) ∧ P1 w' := by
  subst hc
  have hBA := (Below.refl W.heap.size W).alloc (Nat.le_refl _) (.cells (pci m0 p b a z wd0 pr0 37 sw sp nx) 96)
  have CS := Lib.hid (hS _ hBA)
  have FA := Five.new W (pci m0 p b a z wd0 pr0 37 sw sp nx) 96
  obtain ⟨a0, a1, a2, a3, a4, a5, a6, a7, a8, a9, a10⟩ := FA.eleven.1
  have HP := Lib.hid hP
  have cK : ∀ W, Calls Tryz.prog 144 #[.agg (spi m p b a z wd pr 37)] W fun e w' => e = .returned (.int .i64 (if chkB wd pr 37 then 0 else 50)) ∧ Below W.heap.size W w' := fun W => check_any m p b a z wd pr 37 W
  have CK := Lib.hid cK
  clear cK
  generalize (if chkB wd pr 37 = true then (0 : Int) else 50) = E at CK ⊢
  clear hS hBA FA hP
  go_enter Tryz.func96, Tryz.ntmps96
  go_wp2_with fail
  refine CS.out.mono ?_
  rintro e W2 ⟨rfl, h2⟩
  have HP2 := Lib.hid (HP.out _ _ h2 ((Below.refl W2.heap.size W2).alloc (Nat.le_refl _) (.cells (spi m p b a z wd pr 37) 94)))
  clear h2 a0 a1 a2 a3 a4 a5 a6 a7 a8 a9 a10
  obtain ⟨b0, b1, b2, b3, b4, b5, b6, b7⟩ := spec_cells (Five.new W2 (spi m p b a z wd pr 37) 94)
  go_wp2_with fail
  refine (CK.out _).mono ?_
  rintro e W3 ⟨rfl, h3⟩
  have HP3 := Lib.hid (HP.out _ _ HP2.out h3)
  clear h3
  go_wp2_with fail
  go_ret2
  exact ⟨rfl, HP3.out⟩
/-- What next gives: nothing. -/
def NxNo (g : Nat) (P1 P2 : World → Prop) : Prop := ∀ W', P1 W' → Calls Tryz.prog 145 #[.pointer (some ⟨g, 0, none⟩)] W' fun e w' => e = .returned (.tuple #[.agg #[.int .i64 0, .float .f64 0, .string ⟨#[]⟩], .int .i64 50]) ∧ P2 w'
/-- What next gives: a value, and P2. -/
def NxOk (g : Nat) (P1 P2 : World → Prop) (k : Cl) : Prop := ∀ W', P1 W' → Calls Tryz.prog 145 #[.pointer (some ⟨g, 0, none⟩)] W' fun e w' => e = .returned (.tuple #[.agg #[.int .i64 k.kind, .float .f64 k.bits, .string k.str], .int .i64 0]) ∧ P2 w' ∧ Out [g] W' w'
set_option maxRecDepth 100000 in
set_option maxHeartbeats 8000000 in
theorem part_empty (W : World) (g : Nat) (m0 p b a z : Bool) (wd0 pr0 : Int) (c : Int) (sw sp : Bool) (nx : Nat) (m : Bool) (wd pr : Int) (P1 P2 : World → Prop) (hP : Going P1) (hP2 : Going P2) (hS : SzOk W g m0 p b a z wd0 pr0 c sw sp nx m wd pr P1) (hc : c ≠ 37) (hN : NxNo g P1 P2) :
    Calls Tryz.prog 96 #[.pointer (some ⟨g, 0, none⟩), (.agg (pci m0 p b a z wd0 pr0 c sw sp nx))] W fun e w' => ∃ r, e = .returned (.tuple #[.string r, .int .i64 50]) ∧ P2 w' := by
  have hBA := (Below.refl W.heap.size W).alloc (Nat.le_refl _) (.cells (pci m0 p b a z wd0 pr0 c sw sp nx) 96)
  have CS := Lib.hid (hS _ hBA)
  have FA := Five.new W (pci m0 p b a z wd0 pr0 c sw sp nx) 96
  obtain ⟨a0, a1, a2, a3, a4, a5, a6, a7, a8, a9, a10⟩ := FA.eleven.1
  have HP := Lib.hid hP
  have HN := Lib.hid hN
  have HPP := Lib.hid hP2
  have c37 : (c == 37) = false := by rw [beq_eq_false_iff_ne]; omega
  clear hS hBA FA hP hN hP2
  go_enter Tryz.func96, Tryz.ntmps96
  go_wp2_with fail
  refine CS.out.mono ?_
  rintro e W2 ⟨rfl, h2⟩
  have HP2 := Lib.hid (HP.out _ _ h2 ((Below.refl W2.heap.size W2).alloc (Nat.le_refl _) (.cells (spi m p b a z wd pr c) 94)))
  clear h2 a0 a1 a2 a3 a4 a5 a6 a7 a8 a9 a10
  obtain ⟨b0, b1, b2, b3, b4, b5, b6, b7⟩ := spec_cells (Five.new W2 (spi m p b a z wd pr c) 94)
  go_wp2_with fail
  refine (HN.out _ HP2.out).mono ?_
  rintro e W3 ⟨rfl, hp⟩
  have HP3 := Lib.hid (HPP.out _ _ hp ((Below.refl W3.heap.size W3).alloc (Nat.le_refl _) (.cells #[.int .i64 0, .float .f64 0, .string ⟨#[]⟩] 38)))
  clear hp
  have hst := run_store_float
  go_wp2_with fail
  go_ret2
  exact ⟨_, rfl, HP3.out⟩
set_option maxRecDepth 100000 in
set_option maxHeartbeats 16000000 in
theorem part_s (W : World) (g : Nat) (m0 p b a z : Bool) (wd0 pr0 : Int) (sw sp : Bool) (nx : Nat) (m : Bool) (wd pr : Int) (P1 P2 : World → Prop) (k : Cl) (C X T : ByteArray) (by' : Bool) (E : Int) (hP : Going P1) (hP2 : Going P2) (hS : SzOk W g m0 p b a z wd0 pr0 115 sw sp nx m wd pr P1) (hN : NxOk g P1 P2 k) (hg : ∀ W', P1 W' → g < W'.heap.size) (hw : ∀ W', P2 W' → W'.cell? ⟨g, 3, none⟩ = some (.string C) ∧ W'.cell? ⟨g, 4, none⟩ = some (.bool by')) (h1 : ∀ W', P2 W' → Calls Tryz.prog 52 #[.agg #[.int .i64 k.kind, .float .f64 k.bits, .string k.str], .string C] W' fun e w' => e = .returned (.string X) ∧ Below W'.heap.size W' w')
    (h2 : ∀ W', P2 W' → Calls Tryz.prog 146 #[.agg (spi m p b a z wd pr 115), .string X, .bool by'] W' fun e w' => e = .returned (.tuple #[.string T, .int .i64 E]) ∧ Below W'.heap.size W' w') :
    Calls Tryz.prog 96 #[.pointer (some ⟨g, 0, none⟩), (.agg (pci m0 p b a z wd0 pr0 115 sw sp nx))] W fun e w' => e = .returned (.tuple #[.string T, .int .i64 E]) ∧ P2 w' := by
  have hBA := (Below.refl W.heap.size W).alloc (Nat.le_refl _) (.cells (pci m0 p b a z wd0 pr0 115 sw sp nx) 96)
  have CS := Lib.hid (hS _ hBA)
  have FA := Five.new W (pci m0 p b a z wd0 pr0 115 sw sp nx) 96
  obtain ⟨a0, a1, a2, a3, a4, a5, a6, a7, a8, a9, a10⟩ := FA.eleven.1
  have HP := Lib.hid hP
  have HPP := Lib.hid hP2
  have HN := Lib.hid hN
  have HG := Lib.hid hg
  have HW := Lib.hid hw
  have H1 := Lib.hid h1
  have H2 := Lib.hid h2
  clear hS hBA FA hP hP2 hN hg hw h1 h2
  go_enter Tryz.func96, Tryz.ntmps96
  go_wp2_with fail
  refine CS.out.mono ?_
  rintro e W2 ⟨rfl, h2⟩
  have hgl := HG.out _ h2
  have HP2 := Lib.hid (HP.out _ _ h2 ((Below.refl W2.heap.size W2).alloc (Nat.le_refl _) (.cells (spi m p b a z wd pr 115) 94)))
  have FB := Lib.hid (Five.new W2 (spi m p b a z wd pr 115) 94)
  clear h2 a0 a1 a2 a3 a4 a5 a6 a7 a8 a9 a10
  obtain ⟨b0, b1, b2, b3, b4, b5, b6, b7⟩ := spec_cells FB.out
  go_wp2_with fail
  obtain ⟨W2a, hW2a⟩ : ∃ W2a, W2.alloc (.cells (spi m p b a z wd pr 115) 94) = W2a := ⟨_, rfl⟩
  obtain ⟨SB, hSB⟩ : ∃ SB, W2.heap.size = SB := ⟨_, rfl⟩
  have hz2 : W2a.heap.size = SB + 1 := by rw [← hW2a, ← hSB]; simp
  rw [hW2a] at HP2 FB ⊢
  rw [hSB] at FB hgl ⊢
  clear b0 b1 b2 b3 b4 b5 b6 b7 hW2a hSB
  refine (HN.out _ HP2.out).mono ?_
  rintro e W3 ⟨rfl, h3, o3⟩
  have hz3 := o3.size
  have FB4 := Lib.hid ((o3.five FB.out (by simp; omega)).alloc (.cells #[.int .i64 k.kind, .float .f64 k.bits, .string k.str] 38))
  have FC4 := Lib.hid (Five.new W3 #[.int .i64 k.kind, .float .f64 k.bits, .string k.str] 38)
  have HP4 := Lib.hid (HPP.out _ _ h3 ((Below.refl W3.heap.size W3).alloc (Nat.le_refl _) (.cells #[.int .i64 k.kind, .float .f64 k.bits, .string k.str] 38)))
  have hb7 : W3.cell? ⟨SB, 7, none⟩ = some (.int .u8 115) := (o3.five FB.out (by simp; omega)).cell 7
  have hlt3 : SB < W3.heap.size := by omega
  clear h3 o3 FB HP2
  obtain ⟨W4, hW4⟩ : ∃ W4, W3.alloc (.cells #[.int .i64 k.kind, .float .f64 k.bits, .string k.str] 38) = W4 := ⟨_, rfl⟩
  have hz4 : W4.heap.size = W3.heap.size + 1 := by rw [← hW4]; simp
  obtain ⟨CB, hCB⟩ : ∃ CB, W3.heap.size = CB := ⟨_, rfl⟩
  have HW4 := Lib.hid hW4
  have HCB := Lib.hid hCB
  rw [hW4] at FB4 FC4 HP4
  rw [hCB] at FC4 hz4 hz3
  clear hW4 hCB
  have hst := run_store_float
  have HCW := Lib.hid (fun (W' : World) (h : Below W4.heap.size W4 W') => (show (W'.cell? ⟨SB, 0, none⟩ = some (.bool m) ∧ W'.cell? ⟨SB, 1, none⟩ = some (.bool p) ∧ W'.cell? ⟨SB, 2, none⟩ = some (.bool b) ∧ W'.cell? ⟨SB, 3, none⟩ = some (.bool a) ∧ W'.cell? ⟨SB, 4, none⟩ = some (.bool z) ∧ W'.cell? ⟨SB, 5, none⟩ = some (.int .i64 wd) ∧ W'.cell? ⟨SB, 6, none⟩ = some (.int .i64 pr) ∧ W'.cell? ⟨SB, 7, none⟩ = some (.int .u8 115) ∧ W'.cell? ⟨CB, 0, none⟩ = some (.int .i64 k.kind) ∧ W'.cell? ⟨CB, 1, none⟩ = some (.float .f64 k.bits) ∧ W'.cell? ⟨CB, 2, none⟩ = some (.string k.str) ∧ W'.cell? ⟨g, 3, none⟩ = some (.string C) ∧ W'.cell? ⟨g, 4, none⟩ = some (.bool by')) from by
    obtain ⟨b0, b1, b2, b3, b4, b5, b6, b7⟩ := spec_cells (FB4.out.below h)
    obtain ⟨d0, d1, d2, -⟩ := (FC4.out.below h).three
    exact ⟨b0, b1, b2, b3, b4, b5, b6, b7, d0, d1, d2, (HW.out _ (HPP.out _ _ HP4.out h)).1, (HW.out _ (HPP.out _ _ HP4.out h)).2⟩))
  obtain ⟨e0, e1, e2, e3, e4, e5, e6, e7, d0, d1, d2, x3, x4⟩ := HCW.out W4 (Below.refl _ _)
  have HPd := Lib.hid (HPP.out _ _ HP4.out (Below.drew (Below.refl W4.heap.size W4)))
  go_wp2_with fail
  rw [HW4.out, HCB.out]
  go_region_held3 (fun W' => W'.cell? ⟨SB, 0, none⟩ = some (.bool m) ∧ W'.cell? ⟨SB, 1, none⟩ = some (.bool p) ∧ W'.cell? ⟨SB, 2, none⟩ = some (.bool b) ∧ W'.cell? ⟨SB, 3, none⟩ = some (.bool a) ∧ W'.cell? ⟨SB, 4, none⟩ = some (.bool z) ∧ W'.cell? ⟨SB, 5, none⟩ = some (.int .i64 wd) ∧ W'.cell? ⟨SB, 6, none⟩ = some (.int .i64 pr) ∧ W'.cell? ⟨SB, 7, none⟩ = some (.int .u8 115) ∧ W'.cell? ⟨CB, 0, none⟩ = some (.int .i64 k.kind) ∧ W'.cell? ⟨CB, 1, none⟩ = some (.float .f64 k.bits) ∧ W'.cell? ⟨CB, 2, none⟩ = some (.string k.str) ∧ W'.cell? ⟨g, 3, none⟩ = some (.string C) ∧ W'.cell? ⟨g, 4, none⟩ = some (.bool by'))
    (first | (with_reducible exact S2) | (with_reducible exact S1) | go_keep)
    (first
    | (go_at_call 52; (with_reducible refine (H1.out _ HPd.out).mono ?_); rintro e W5 ⟨rfl, h5⟩; have b5 : Below W4.heap.size W4 W5 := ⟨h5.os, h5.tape, h5.output, h5.size, h5.block⟩; have S1 := HCW.out _ b5; have HP5 := Lib.hid (HPP.out _ _ HP4.out b5); clear h5)
    | (go_at_call 146; (with_reducible refine (H2.out _ HP5.out).mono ?_); rintro e W6 ⟨rfl, h6⟩; have b6 : Below W4.heap.size W4 W6 := b5.trans ((⟨h6.os, h6.tape, h6.output, h6.size, h6.block⟩ : Below W5.heap.size W5 W6).mono b5.size); have S2 := HCW.out _ b6; clear h6))
  all_goals
    have hPf := HPP.out _ _ HP4.out b6
    go_wp2_with fail
    go_ret2
    exact ⟨rfl, by first | exact hPf | exact HPP.out _ _ hPf (below_drewN' (Below.refl _ _) _)⟩
set_option maxRecDepth 100000 in
set_option maxHeartbeats 16000000 in
theorem part_c (W : World) (g : Nat) (m0 p b a z : Bool) (wd0 pr0 : Int) (sw sp : Bool) (nx : Nat) (m : Bool) (wd pr : Int) (P1 P2 : World → Prop) (k : Cl) (C X T : ByteArray) (by' : Bool) (E : Int) (hP : Going P1) (hP2 : Going P2) (hS : SzOk W g m0 p b a z wd0 pr0 99 sw sp nx m wd pr P1) (hN : NxOk g P1 P2 k) (hg : ∀ W', P1 W' → g < W'.heap.size) (hw : ∀ W', P2 W' → W'.cell? ⟨g, 3, none⟩ = some (.string C) ∧ W'.cell? ⟨g, 4, none⟩ = some (.bool by')) (h1 : ∀ W', P2 W' → Calls Tryz.prog 147 #[.pointer (some ⟨g, 0, none⟩), .agg #[.int .i64 k.kind, .float .f64 k.bits, .string k.str]] W' fun e w' => e = .returned (.string X) ∧ Below W'.heap.size W' w')
    (h2 : ∀ W', P2 W' → Calls Tryz.prog 146 #[.agg (spi m p b a z wd pr 99), .string X, .bool by'] W' fun e w' => e = .returned (.tuple #[.string T, .int .i64 E]) ∧ Below W'.heap.size W' w') :
    Calls Tryz.prog 96 #[.pointer (some ⟨g, 0, none⟩), (.agg (pci m0 p b a z wd0 pr0 99 sw sp nx))] W fun e w' => e = .returned (.tuple #[.string T, .int .i64 E]) ∧ P2 w' := by
  have hBA := (Below.refl W.heap.size W).alloc (Nat.le_refl _) (.cells (pci m0 p b a z wd0 pr0 99 sw sp nx) 96)
  have CS := Lib.hid (hS _ hBA)
  have FA := Five.new W (pci m0 p b a z wd0 pr0 99 sw sp nx) 96
  obtain ⟨a0, a1, a2, a3, a4, a5, a6, a7, a8, a9, a10⟩ := FA.eleven.1
  have HP := Lib.hid hP
  have HPP := Lib.hid hP2
  have HN := Lib.hid hN
  have HG := Lib.hid hg
  have HW := Lib.hid hw
  have H1 := Lib.hid h1
  have H2 := Lib.hid h2
  clear hS hBA FA hP hP2 hN hg hw h1 h2
  go_enter Tryz.func96, Tryz.ntmps96
  go_wp2_with fail
  refine CS.out.mono ?_
  rintro e W2 ⟨rfl, h2⟩
  have hgl := HG.out _ h2
  have HP2 := Lib.hid (HP.out _ _ h2 ((Below.refl W2.heap.size W2).alloc (Nat.le_refl _) (.cells (spi m p b a z wd pr 99) 94)))
  have FB := Lib.hid (Five.new W2 (spi m p b a z wd pr 99) 94)
  clear h2 a0 a1 a2 a3 a4 a5 a6 a7 a8 a9 a10
  obtain ⟨b0, b1, b2, b3, b4, b5, b6, b7⟩ := spec_cells FB.out
  go_wp2_with fail
  obtain ⟨W2a, hW2a⟩ : ∃ W2a, W2.alloc (.cells (spi m p b a z wd pr 99) 94) = W2a := ⟨_, rfl⟩
  obtain ⟨SB, hSB⟩ : ∃ SB, W2.heap.size = SB := ⟨_, rfl⟩
  have hz2 : W2a.heap.size = SB + 1 := by rw [← hW2a, ← hSB]; simp
  rw [hW2a] at HP2 FB ⊢
  rw [hSB] at FB hgl ⊢
  clear b0 b1 b2 b3 b4 b5 b6 b7 hW2a hSB
  refine (HN.out _ HP2.out).mono ?_
  rintro e W3 ⟨rfl, h3, o3⟩
  have hz3 := o3.size
  have FB4 := Lib.hid ((o3.five FB.out (by simp; omega)).alloc (.cells #[.int .i64 k.kind, .float .f64 k.bits, .string k.str] 38))
  have FC4 := Lib.hid (Five.new W3 #[.int .i64 k.kind, .float .f64 k.bits, .string k.str] 38)
  have HP4 := Lib.hid (HPP.out _ _ h3 ((Below.refl W3.heap.size W3).alloc (Nat.le_refl _) (.cells #[.int .i64 k.kind, .float .f64 k.bits, .string k.str] 38)))
  have hb7 : W3.cell? ⟨SB, 7, none⟩ = some (.int .u8 99) := (o3.five FB.out (by simp; omega)).cell 7
  have hlt3 : SB < W3.heap.size := by omega
  clear h3 o3 FB HP2
  obtain ⟨W4, hW4⟩ : ∃ W4, W3.alloc (.cells #[.int .i64 k.kind, .float .f64 k.bits, .string k.str] 38) = W4 := ⟨_, rfl⟩
  have hz4 : W4.heap.size = W3.heap.size + 1 := by rw [← hW4]; simp
  obtain ⟨CB, hCB⟩ : ∃ CB, W3.heap.size = CB := ⟨_, rfl⟩
  have HW4 := Lib.hid hW4
  have HCB := Lib.hid hCB
  rw [hW4] at FB4 FC4 HP4
  rw [hCB] at FC4 hz4 hz3
  clear hW4 hCB
  have hst := run_store_float
  have HCW := Lib.hid (fun (W' : World) (h : Below W4.heap.size W4 W') => (show (W'.cell? ⟨SB, 0, none⟩ = some (.bool m) ∧ W'.cell? ⟨SB, 1, none⟩ = some (.bool p) ∧ W'.cell? ⟨SB, 2, none⟩ = some (.bool b) ∧ W'.cell? ⟨SB, 3, none⟩ = some (.bool a) ∧ W'.cell? ⟨SB, 4, none⟩ = some (.bool z) ∧ W'.cell? ⟨SB, 5, none⟩ = some (.int .i64 wd) ∧ W'.cell? ⟨SB, 6, none⟩ = some (.int .i64 pr) ∧ W'.cell? ⟨SB, 7, none⟩ = some (.int .u8 99) ∧ W'.cell? ⟨CB, 0, none⟩ = some (.int .i64 k.kind) ∧ W'.cell? ⟨CB, 1, none⟩ = some (.float .f64 k.bits) ∧ W'.cell? ⟨CB, 2, none⟩ = some (.string k.str) ∧ W'.cell? ⟨g, 3, none⟩ = some (.string C) ∧ W'.cell? ⟨g, 4, none⟩ = some (.bool by')) from by
    obtain ⟨b0, b1, b2, b3, b4, b5, b6, b7⟩ := spec_cells (FB4.out.below h)
    obtain ⟨d0, d1, d2, -⟩ := (FC4.out.below h).three
    exact ⟨b0, b1, b2, b3, b4, b5, b6, b7, d0, d1, d2, (HW.out _ (HPP.out _ _ HP4.out h)).1, (HW.out _ (HPP.out _ _ HP4.out h)).2⟩))
  obtain ⟨e0, e1, e2, e3, e4, e5, e6, e7, d0, d1, d2, x3, x4⟩ := HCW.out W4 (Below.refl _ _)
  have HPd := Lib.hid (HPP.out _ _ HP4.out (Below.drew (Below.refl W4.heap.size W4)))
  go_wp2_with fail
  rw [HW4.out, HCB.out]
  go_region_held3 (fun W' => W'.cell? ⟨SB, 0, none⟩ = some (.bool m) ∧ W'.cell? ⟨SB, 1, none⟩ = some (.bool p) ∧ W'.cell? ⟨SB, 2, none⟩ = some (.bool b) ∧ W'.cell? ⟨SB, 3, none⟩ = some (.bool a) ∧ W'.cell? ⟨SB, 4, none⟩ = some (.bool z) ∧ W'.cell? ⟨SB, 5, none⟩ = some (.int .i64 wd) ∧ W'.cell? ⟨SB, 6, none⟩ = some (.int .i64 pr) ∧ W'.cell? ⟨SB, 7, none⟩ = some (.int .u8 99) ∧ W'.cell? ⟨CB, 0, none⟩ = some (.int .i64 k.kind) ∧ W'.cell? ⟨CB, 1, none⟩ = some (.float .f64 k.bits) ∧ W'.cell? ⟨CB, 2, none⟩ = some (.string k.str) ∧ W'.cell? ⟨g, 3, none⟩ = some (.string C) ∧ W'.cell? ⟨g, 4, none⟩ = some (.bool by'))
    (first | (with_reducible exact S2) | (with_reducible exact S1) | go_keep)
    (first
    | (go_at_call 147; (with_reducible refine (H1.out _ HPd.out).mono ?_); rintro e W5 ⟨rfl, h5⟩; have b5 : Below W4.heap.size W4 W5 := ⟨h5.os, h5.tape, h5.output, h5.size, h5.block⟩; have S1 := HCW.out _ b5; have HP5 := Lib.hid (HPP.out _ _ HP4.out b5); clear h5)
    | (go_at_call 146; (with_reducible refine (H2.out _ HP5.out).mono ?_); rintro e W6 ⟨rfl, h6⟩; have b6 : Below W4.heap.size W4 W6 := b5.trans ((⟨h6.os, h6.tape, h6.output, h6.size, h6.block⟩ : Below W5.heap.size W5 W6).mono b5.size); have S2 := HCW.out _ b6; clear h6))
  all_goals
    have hPf := HPP.out _ _ HP4.out b6
    go_wp2_with fail
    go_ret2
    exact ⟨rfl, by first | exact hPf | exact HPP.out _ _ hPf (below_drewN' (Below.refl _ _) _)⟩
set_option maxRecDepth 100000 in
set_option maxHeartbeats 16000000 in
theorem part_n (W : World) (g : Nat) (m0 p b a z : Bool) (wd0 pr0 : Int) (sw sp : Bool) (nx : Nat) (m : Bool) (wd pr : Int) (P1 P2 : World → Prop) (k : Cl) (c : Int) (N : Nat) (T : ByteArray) (E : Int) (n37 : (c == 37) = false) (n115 : (c == 115) = false) (n99 : (c == 99) = false) (hP : Going P1) (hP2 : Going P2) (hS : SzOk W g m0 p b a z wd0 pr0 c sw sp nx m wd pr P1) (hN : NxOk g P1 P2 k) (hg : ∀ W', P1 W' → g < W'.heap.size) (h1 : ∀ W', P2 W' → Calls Tryz.prog 53 #[.agg #[.int .i64 k.kind, .float .f64 k.bits, .string k.str]] W' fun e w' => e = .returned (.float .f64 N) ∧ Below W'.heap.size W' w')
    (h2 : ∀ W', P2 W' → Calls Tryz.prog 135 #[.agg (spi m p b a z wd pr c), .float .f64 N] W' fun e w' => e = .returned (.tuple #[.string T, .int .i64 E]) ∧ Below W'.heap.size W' w') :
    Calls Tryz.prog 96 #[.pointer (some ⟨g, 0, none⟩), (.agg (pci m0 p b a z wd0 pr0 c sw sp nx))] W fun e w' => e = .returned (.tuple #[.string T, .int .i64 E]) ∧ P2 w' := by
  have hBA := (Below.refl W.heap.size W).alloc (Nat.le_refl _) (.cells (pci m0 p b a z wd0 pr0 c sw sp nx) 96)
  have CS := Lib.hid (hS _ hBA)
  have FA := Five.new W (pci m0 p b a z wd0 pr0 c sw sp nx) 96
  obtain ⟨a0, a1, a2, a3, a4, a5, a6, a7, a8, a9, a10⟩ := FA.eleven.1
  have HP := Lib.hid hP
  have HPP := Lib.hid hP2
  have HN := Lib.hid hN
  have HG := Lib.hid hg
  have H1 := Lib.hid h1
  have H2 := Lib.hid h2
  clear hS hBA FA hP hP2 hN hg h1 h2
  go_enter Tryz.func96, Tryz.ntmps96
  go_wp2_with fail
  refine CS.out.mono ?_
  rintro e W2 ⟨rfl, h2⟩
  have hgl := HG.out _ h2
  have HP2 := Lib.hid (HP.out _ _ h2 ((Below.refl W2.heap.size W2).alloc (Nat.le_refl _) (.cells (spi m p b a z wd pr c) 94)))
  have FB := Lib.hid (Five.new W2 (spi m p b a z wd pr c) 94)
  clear h2 a0 a1 a2 a3 a4 a5 a6 a7 a8 a9 a10
  obtain ⟨b0, b1, b2, b3, b4, b5, b6, b7⟩ := spec_cells FB.out
  go_wp2_with fail
  obtain ⟨W2a, hW2a⟩ : ∃ W2a, W2.alloc (.cells (spi m p b a z wd pr c) 94) = W2a := ⟨_, rfl⟩
  obtain ⟨SB, hSB⟩ : ∃ SB, W2.heap.size = SB := ⟨_, rfl⟩
  have hz2 : W2a.heap.size = SB + 1 := by rw [← hW2a, ← hSB]; simp
  rw [hW2a] at HP2 FB ⊢
  rw [hSB] at FB hgl ⊢
  clear b0 b1 b2 b3 b4 b5 b6 b7 hW2a hSB
  refine (HN.out _ HP2.out).mono ?_
  rintro e W3 ⟨rfl, h3, o3⟩
  have hz3 := o3.size
  have FB4 := Lib.hid ((o3.five FB.out (by simp; omega)).alloc (.cells #[.int .i64 k.kind, .float .f64 k.bits, .string k.str] 38))
  have FC4 := Lib.hid (Five.new W3 #[.int .i64 k.kind, .float .f64 k.bits, .string k.str] 38)
  have HP4 := Lib.hid (HPP.out _ _ h3 ((Below.refl W3.heap.size W3).alloc (Nat.le_refl _) (.cells #[.int .i64 k.kind, .float .f64 k.bits, .string k.str] 38)))
  have hb7 : W3.cell? ⟨SB, 7, none⟩ = some (.int .u8 c) := (o3.five FB.out (by simp; omega)).cell 7
  have hlt3 : SB < W3.heap.size := by omega
  clear h3 o3 FB HP2
  obtain ⟨W4, hW4⟩ : ∃ W4, W3.alloc (.cells #[.int .i64 k.kind, .float .f64 k.bits, .string k.str] 38) = W4 := ⟨_, rfl⟩
  have hz4 : W4.heap.size = W3.heap.size + 1 := by rw [← hW4]; simp
  obtain ⟨CB, hCB⟩ : ∃ CB, W3.heap.size = CB := ⟨_, rfl⟩
  have HW4 := Lib.hid hW4
  have HCB := Lib.hid hCB
  rw [hW4] at FB4 FC4 HP4
  rw [hCB] at FC4 hz4 hz3
  clear hW4 hCB
  have hst := run_store_float
  have HCW := Lib.hid (fun (W' : World) (h : Below W4.heap.size W4 W') => (show (W'.cell? ⟨SB, 0, none⟩ = some (.bool m) ∧ W'.cell? ⟨SB, 1, none⟩ = some (.bool p) ∧ W'.cell? ⟨SB, 2, none⟩ = some (.bool b) ∧ W'.cell? ⟨SB, 3, none⟩ = some (.bool a) ∧ W'.cell? ⟨SB, 4, none⟩ = some (.bool z) ∧ W'.cell? ⟨SB, 5, none⟩ = some (.int .i64 wd) ∧ W'.cell? ⟨SB, 6, none⟩ = some (.int .i64 pr) ∧ W'.cell? ⟨SB, 7, none⟩ = some (.int .u8 c) ∧ W'.cell? ⟨CB, 0, none⟩ = some (.int .i64 k.kind) ∧ W'.cell? ⟨CB, 1, none⟩ = some (.float .f64 k.bits) ∧ W'.cell? ⟨CB, 2, none⟩ = some (.string k.str)) from by
    obtain ⟨b0, b1, b2, b3, b4, b5, b6, b7⟩ := spec_cells (FB4.out.below h)
    obtain ⟨d0, d1, d2, -⟩ := (FC4.out.below h).three
    exact ⟨b0, b1, b2, b3, b4, b5, b6, b7, d0, d1, d2⟩))
  obtain ⟨e0, e1, e2, e3, e4, e5, e6, e7, d0, d1, d2⟩ := HCW.out W4 (Below.refl _ _)
  have HPd := Lib.hid (HPP.out _ _ HP4.out (Below.drew (Below.refl W4.heap.size W4)))
  go_wp2_with fail
  rw [HW4.out, HCB.out]
  go_region_held3 (fun W' => W'.cell? ⟨SB, 0, none⟩ = some (.bool m) ∧ W'.cell? ⟨SB, 1, none⟩ = some (.bool p) ∧ W'.cell? ⟨SB, 2, none⟩ = some (.bool b) ∧ W'.cell? ⟨SB, 3, none⟩ = some (.bool a) ∧ W'.cell? ⟨SB, 4, none⟩ = some (.bool z) ∧ W'.cell? ⟨SB, 5, none⟩ = some (.int .i64 wd) ∧ W'.cell? ⟨SB, 6, none⟩ = some (.int .i64 pr) ∧ W'.cell? ⟨SB, 7, none⟩ = some (.int .u8 c) ∧ W'.cell? ⟨CB, 0, none⟩ = some (.int .i64 k.kind) ∧ W'.cell? ⟨CB, 1, none⟩ = some (.float .f64 k.bits) ∧ W'.cell? ⟨CB, 2, none⟩ = some (.string k.str))
    (first | (with_reducible exact S2) | (with_reducible exact S1) | go_keep)
    (first
    | (go_at_call 53; (with_reducible refine (H1.out _ HPd.out).mono ?_); rintro e W5 ⟨rfl, h5⟩; have b5 : Below W4.heap.size W4 W5 := ⟨h5.os, h5.tape, h5.output, h5.size, h5.block⟩; have S1 := HCW.out _ b5; have HP5 := Lib.hid (HPP.out _ _ HP4.out b5); clear h5)
    | (go_at_call 135; (with_reducible refine (H2.out _ HP5.out).mono ?_); rintro e W6 ⟨rfl, h6⟩; have b6 : Below W4.heap.size W4 W6 := b5.trans ((⟨h6.os, h6.tape, h6.output, h6.size, h6.block⟩ : Below W5.heap.size W5 W6).mono b5.size); have S2 := HCW.out _ b6; clear h6))
  all_goals
    have hPf := HPP.out _ _ HP4.out b6
    go_wp2_with fail
    go_ret2
    exact ⟨rfl, by first | exact hPf | exact HPP.out _ _ hPf (below_drewN' (Below.refl _ _) _)⟩
end Go.Proofs.YtddfigbpckhfbaaGreatDoor

namespace Go.Proofs.YtddfigbpckhfbaaGreatDoor
open Go.RowKit Go.Lib

set_option maxRecDepth 100000 in
set_option maxHeartbeats 4000000 in
theorem ftext_no (m p b a z by' : Bool) (wd pr : Int) (c : Nat) (s : ByteArray) (w : World) (h : chkB wd pr c = false ∨ (chkB wd pr c = true ∧ vText.contains c.toUInt8 = false)) :
    Calls Tryz.prog 146 #[.agg #[.bool m, .bool p, .bool b, .bool a, .bool z, .int .i64 wd, .int .i64 pr, .int .u8 (c : Int)], .string s, .bool by'] w fun e w' => e = .returned (.tuple #[.string ⟨#[]⟩, .int .i64 50]) ∧ Below w.heap.size w w' := by
  have cK := fun W => check_any m p b a z wd pr c W
  have cA := fun W => among_any ⟨#[99, 115]⟩ c W
  replace cA : ∀ w : World, Calls Tryz.prog 179 #[.string ⟨#[99, 115]⟩, .int .u8 (c : Int)] w fun e w' => e = .returned (.bool (vText.contains c.toUInt8)) ∧ w = w' := cA
  have FP := Lib.hid (Five.new w #[.bool m, .bool p, .bool b, .bool a, .bool z, .int .i64 wd, .int .i64 pr, .int .u8 (c : Int)] 94)
  have HB0 := Lib.hid ((Below.refl w.heap.size w).alloc (Nat.le_refl _) (.cells #[.bool m, .bool p, .bool b, .bool a, .bool z, .int .i64 wd, .int .i64 pr, .int .u8 (c : Int)] 94))
  obtain ⟨p0, p1, p2, p3, p4, p5, p6, p7⟩ := spec_cells FP.out
  rcases h with h | ⟨h, hv⟩
  · rw [h, if_neg (by decide)] at cK
    have CK := Lib.hid cK
    clear cK cA h
    go_enter Tryz.func146, Tryz.ntmps146
    go_wp2_with fail
    refine (CK.out _).mono ?_
    rintro e W2 ⟨rfl, h2⟩
    have hBf := HB0.out.trans (h2.mono HB0.out.size)
    clear h2
    go_wp2_with fail
    go_ret2
    exact ⟨rfl, hBf⟩
  · rw [h, if_pos rfl] at cK
    rw [hv] at cA
    have CK := Lib.hid cK
    have CA := Lib.hid cA
    clear cK cA h hv
    go_enter Tryz.func146, Tryz.ntmps146
    go_wp2_with fail
    refine (CK.out _).mono ?_
    rintro e W2 ⟨rfl, h2⟩
    have hBf := HB0.out.trans (h2.mono HB0.out.size)
    clear p0 p1 p2 p3 p4 p5 p6 p7
    obtain ⟨p0, p1, p2, p3, p4, p5, p6, p7⟩ := spec_cells (FP.out.below h2)
    clear h2
    go_wp2_with fail
    refine (CA.out _).mono ?_
    rintro e w' ⟨rfl, rfl⟩
    go_wp2_with fail
    go_ret2
    exact ⟨rfl, hBf⟩
end Go.Proofs.YtddfigbpckhfbaaGreatDoor

namespace Go.Proofs.YtddfigbpckhfbaaGreatDoor
open Go.RowKit Go.Lib

def PartOut (w0 : World) (B g : Nat) (S : ByteArray) (k : Nat) (C : ByteArray) (by' : Bool) (o : List UInt8) (cv : Nat → ByteArray) (x : Pc) (l : List Cl) (e : Ending) (w' : World) : Prop :=
  match textP cv by' x l with
  | none => ∃ r, e = .returned (.tuple #[.string r, .int .i64 50]) ∧ ∃ av', Wt w0 w' B g S k av' C by' o
  | some (t, l') => e = .returned (.tuple #[.string ⟨t.toArray⟩, .int .i64 0]) ∧ ∃ av', ArgV w0 av' l' ∧ Wt w0 w' B g S k av' C by' o
/-- Values that may be written. -/
structure Vals (C : ByteArray) (cv : Nat → ByteArray) (l : List Cl) : Prop where
  fine : ∀ c ∈ l, c.fine
  conv : ∀ c ∈ l, c.kind = 1 → ∀ W, PowTab W → Calls Tryz.prog 90 #[.float .f64 c.bits, .string C] W fun e w' => e = .returned (.string (cv c.bits)) ∧ Below W.heap.size W w'
/-- They are short, or the part asks for no more than themselves. -/
def Short (cv : Nat → ByteArray) (l : List Cl) : Prop := ∀ c ∈ l, (wrT c.kind c.str (cv c.bits)).size ≤ 1048576 ∧ c.str.size ≤ 1048576
def Bare (cv : Nat → ByteArray) (x : Pc) (l : List Cl) : Prop := x.c = 115 ∧ x.sw = false ∧ x.wd = 0 ∧ x.sp = false ∧ x.pr = -1 ∧ ∀ c ∈ l, (wrT c.kind c.str (cv c.bits)).size ≤ 140737488355328
set_option maxRecDepth 100000 in
theorem rep_neg (x : UInt8) (k : Int) (w : World) (h0 : k ≤ 0) : Calls Tryz.prog 216 #[.string ⟨#[x]⟩, .int .i64 k] w fun e w' => e = .returned (.string ⟨#[]⟩) ∧ Below w.heap.size w w' := by
  have hmx : max (0 : Int) k = 0 := by omega
  have cR := Tryz.strings_Repeat ⟨#[x]⟩ 0 w (by omega) (by show 1 * 0 ≤ _; omega)
  replace cR : Calls Tryz.prog 236 #[.string ⟨#[x]⟩, .int .i64 0] w fun e w' => e = .returned (.string ⟨#[]⟩) ∧ Below w.heap.size w w' := cR
  have CR := Lib.hid cR
  clear cR h0
  go_enter Tryz.func216, Tryz.ntmps216
  go_wp2_with fail
  refine CR.out.mono ?_
  rintro e w' ⟨rfl, hB⟩
  go_wp2_with fail
  go_ret
  exact ⟨rfl, hB⟩
set_option maxRecDepth 100000 in
set_option maxHeartbeats 1000000 in
theorem fill_neg (s : ByteArray) (k : Int) (bh : Bool) (w : World) (hs : s.size ≤ 9223372036854775807) (h0 : k ≤ 0) : Calls Tryz.prog 180 #[.string s, .int .i64 k, .bool bh] w fun e w' => e = .returned (.string s) ∧ Below w.heap.size w w' := by
  have CR := Lib.hid (rep_neg 32 k w h0)
  have e1 : s ++ ⟨#[]⟩ = s := by apply ByteArray.ext; rw [ByteArray.data_append]; simp
  have e2 : (⟨#[]⟩ : ByteArray) ++ s = s := by apply ByteArray.ext; rw [ByteArray.data_append]; simp
  have z0 : (⟨#[]⟩ : ByteArray).size = 0 := rfl
  obtain ⟨R, hR⟩ : ∃ R : ByteArray, (⟨#[]⟩ : ByteArray) = R := ⟨_, rfl⟩
  have CR := CR.out
  rw [hR] at CR e1 e2 z0
  have g1 : ¬ 9223372036854775807 < s.size + R.size := by omega
  have g2 : ¬ 9223372036854775807 < R.size + s.size := by omega
  have CR := Lib.hid CR
  have E1 := Lib.hid e1
  have E2 := Lib.hid e2
  clear e1 e2 hR h0 hs z0
  cases bh with
  | true =>
    go_enter Tryz.func180, Tryz.ntmps180
    go_wp2_with fail
    refine CR.out.mono ?_
    rintro e w' ⟨rfl, hB⟩
    go_wp2_with fail
    go_ret
    exact ⟨by show Ending.returned (.string (s ++ R)) = _; rw [E1.out], hB⟩
  | false =>
    go_enter Tryz.func180, Tryz.ntmps180
    go_wp2_with fail
    refine CR.out.mono ?_
    rintro e w' ⟨rfl, hB⟩
    go_wp2_with fail
    go_ret
    exact ⟨by show Ending.returned (.string (R ++ s)) = _; rw [E2.out], hB⟩
set_option maxRecDepth 100000 in
set_option maxHeartbeats 8000000 in
/-- A string, however long, without width and precision. -/
theorem ftext_bare (m p b a z by' : Bool) (s : ByteArray) (w : World) (hs : s.size ≤ 140737488355328) :
    Calls Tryz.prog 146 #[.agg #[.bool m, .bool p, .bool b, .bool a, .bool z, .int .i64 0, .int .i64 (-1), .int .u8 115], .string s, .bool by'] w fun e w' => e = .returned (.tuple #[.string s, .int .i64 0]) ∧ Below w.heap.size w w' := by
  have cK : ∀ W, Calls Tryz.prog 144 #[.agg #[.bool m, .bool p, .bool b, .bool a, .bool z, .int .i64 0, .int .i64 (-1), .int .u8 115]] W fun e w' => e = .returned (.int .i64 0) ∧ Below W.heap.size W w' := fun W => by
    have := check_any m p b a z 0 (-1) 115 W
    rw [if_pos (by decide)] at this
    exact this
  have cA : ∀ w : World, Calls Tryz.prog 179 #[.string ⟨#[99, 115]⟩, .int .u8 115] w fun e w' => e = .returned (.bool true) ∧ w = w' := fun W => among_any ⟨#[99, 115]⟩ 115 W
  have cC := fun W => clone_str s W hs
  have hcl := cnt_le s by'
  have cL := fun W => len_any s by' W (by omega)
  obtain ⟨n, hn⟩ : ∃ n, cnt s by' = n := ⟨_, rfl⟩
  rw [hn] at cL hcl
  have hwr : IntKind.i64.wrap (-(n : Int)) = -(n : Int) := by rw [IntKind.wrap_i64]; omega
  have hwr0 : IntKind.i64.wrap (0 - (n : Int)) = -(n : Int) := by rw [IntKind.wrap_i64]; omega
  have cF := fun W => fill_neg s (-(n : Int)) m W (by omega) (by omega)
  have CK := Lib.hid cK
  have CA := Lib.hid cA
  have CC := Lib.hid cC
  have CL := Lib.hid cL
  have CF := Lib.hid cF
  have FP := Lib.hid (Five.new w #[.bool m, .bool p, .bool b, .bool a, .bool z, .int .i64 0, .int .i64 (-1), .int .u8 115] 94)
  have HB0 := Lib.hid ((Below.refl w.heap.size w).alloc (Nat.le_refl _) (.cells #[.bool m, .bool p, .bool b, .bool a, .bool z, .int .i64 0, .int .i64 (-1), .int .u8 115] 94))
  obtain ⟨W1, hW1⟩ : ∃ W1, w.alloc (.cells #[.bool m, .bool p, .bool b, .bool a, .bool z, .int .i64 0, .int .i64 (-1), .int .u8 115] 94) = W1 := ⟨_, rfl⟩
  rw [hW1] at FP HB0
  have HW1 := Lib.hid hW1
  clear cK cA cC cL cF hW1 hn hs hcl
  have hle : w.heap.size ≤ W1.heap.size := HB0.out.size
  obtain ⟨B, hB⟩ : ∃ B, w.heap.size = B := ⟨_, rfl⟩
  rw [hB] at FP HB0 hle ⊢
  have HB := Lib.hid hB
  clear hB
  obtain ⟨p0, p1, p2, p3, p4, p5, p6, p7⟩ := spec_cells FP.out
  go_enter Tryz.func146, Tryz.ntmps146
  go_wp2_with fail
  rw [HW1.out, HB.out]
  refine (CK.out _).mono ?_
  rintro e W2 ⟨rfl, h2⟩
  clear p0 p1 p2 p3 p4 p5 p6 p7
  obtain ⟨p0, p1, p2, p3, p4, p5, p6, p7⟩ := spec_cells (FP.out.below h2)
  have FP2 := Lib.hid (FP.out.below h2)
  have HB2 := Lib.hid (HB0.out.trans (h2.mono hle))
  have hle2 : B ≤ W2.heap.size := Nat.le_trans hle h2.size
  clear h2
  go_wp2_with fail
  refine (CA.out _).mono ?_
  rintro e w' ⟨rfl, rfl⟩
  go_wp2_with fail
  have HC3 := Lib.hid (fun (W : World) (h : Below W2.heap.size W2 W) => spec_cells (FP2.out.below h))
  refine (CC.out _).mono ?_
  rintro e W3 ⟨rfl, h3⟩
  clear p0 p1 p2 p3 p4 p5 p6 p7
  obtain ⟨p0, p1, p2, p3, p4, p5, p6, p7⟩ := HC3.out _ h3
  have FP3 := Lib.hid (FP2.out.below h3)
  have HB3 := Lib.hid (HB2.out.trans (h3.mono hle2))
  have hle3 : B ≤ W3.heap.size := Nat.le_trans hle2 h3.size
  clear h3
  go_wp2_with fail
  have HCW := Lib.hid (fun (W : World) (h : Below W3.heap.size W3 W) => spec_cells (FP3.out.below h))
  have hR := Below.refl W3.heap.size W3
  go_region_held3 (fun w' => w'.cell? ⟨B, 0, none⟩ = some (.bool m) ∧ w'.cell? ⟨B, 1, none⟩ = some (.bool p) ∧ w'.cell? ⟨B, 2, none⟩ = some (.bool b) ∧ w'.cell? ⟨B, 3, none⟩ = some (.bool a) ∧ w'.cell? ⟨B, 4, none⟩ = some (.bool z) ∧ w'.cell? ⟨B, 5, none⟩ = some (.int .i64 0) ∧ w'.cell? ⟨B, 6, none⟩ = some (.int .i64 (-1)) ∧ w'.cell? ⟨B, 7, none⟩ = some (.int .u8 115))
    (first | (with_reducible exact S2) | (with_reducible exact S1) | go_keep)
    (first
    | (go_at_call 193; (with_reducible refine (CL.out _).mono ?_); rintro e W4 ⟨rfl, h4⟩; have b4 : Below W3.heap.size W3 W4 := ⟨h4.os, h4.tape, h4.output, h4.size, h4.block⟩; have S1 := HCW.out _ b4; clear h4)
    | (go_at_call 180; (with_reducible refine (CF.out _).mono ?_); rintro e W5 ⟨rfl, h5⟩; have b5 : Below W3.heap.size W3 W5 := b4.trans ((⟨h5.os, h5.tape, h5.output, h5.size, h5.block⟩ : Below W4.heap.size W4 W5).mono b4.size); have S2 := HCW.out _ b5; clear h5))
  all_goals
    have hBf := HB3.out.trans (b5.mono hle3)
    go_wp2_with fail
    go_ret2
    exact ⟨rfl, by first | exact hBf | exact ⟨hBf.os, hBf.tape, hBf.output, hBf.size, hBf.block⟩⟩
theorem num_verb {c : Nat} (h : c < 256) (hv : vAll.contains c.toUInt8 = true) (h1 : c ≠ 37) (h2 : c ≠ 115) (h3 : c ≠ 99) : vNum.contains c.toUInt8 = true := by
  have key : ∀ n : Fin 256, vAll.contains (UInt8.ofNat n.val) = true → n.val ≠ 37 → n.val ≠ 115 → n.val ≠ 99 → vNum.contains (UInt8.ofNat n.val) = true := by decide +kernel
  exact key ⟨c, h⟩ hv h1 h2 h3
theorem vText_s : vText.contains (115 : Nat).toUInt8 = true := by decide +kernel
theorem vText_c : vText.contains (99 : Nat).toUInt8 = true := by decide +kernel
theorem textT_m (m : Bool) (s : ByteArray) (b : Bool) : textT m 0 (-1) 115 s b = s.data.toList := by
  unfold textT
  have e : cutT (-1) 115 s b = s := by unfold cutT; rw [if_neg (by omega)]
  rw [e]
  unfold fillL
  rw [show (0 - (cnt s b : Int)).toNat = 0 by omega]
  split
  · rw [List.replicate_zero, List.append_nil]
  · rfl
set_option maxRecDepth 100000 in
set_option maxHeartbeats 8000000 in
theorem wPart_any (w0 W : World) (B g : Nat) (S : ByteArray) (k : Nat) (C : ByteArray) (by' : Bool) (o : List UInt8) (cv : Nat → ByteArray) (l : List Cl) (av : Value) (x : Pc) (ha : ArgV w0 av l) (h : Wt w0 W B g S k av C by' o) (hV : Vals C cv l) (hz : Short cv l ∨ Bare cv x l) (hx : x.c < 256) (hv : vAll.contains x.c.toUInt8 = true) (hT : PowTab w0) (hU : Utf8Tabs 3 4 w0) :
    Calls Tryz.prog 96 #[.pointer (some ⟨g, 0, none⟩), pcV x] W (PartOut w0 B g S k C by' o cv x l) := by
  have hS := fun (W' : World) (hb : Below W.heap.size W W') => wSized_any w0 W' B g S k C by' o l av x ha (h.below hb) hV.fine
  have tT : ∀ {W' : World} {av' : Value}, Wt w0 W' B g S k av' C by' o → PowTab W' := fun q => Lib.tabBelow_of_tabIs hT _ (q.bel.mono q.lim)
  have tU : ∀ {W' : World} {av' : Value}, Wt w0 W' B g S k av' C by' o → Utf8Tabs 3 4 W' := fun q => tabs_below hU (q.bel.mono q.lim) (Nat.le_refl _)
  obtain ⟨m0, p, b, a, z, wd0, pr0, c, sw, sp, nx⟩ := x
  unfold SizeEnd at hS
  unfold PartOut textP
  dsimp only at hS hx hv ⊢
  cases h1 : szW m0 wd0 sw l with
  | none =>
    simp only [h1] at hS
    exact (part_sbad W g m0 p b a z wd0 pr0 (c : Int) sw sp nx (fun w' => ∃ av', Wt w0 w' B g S k av' C by' o) (fun _ _ ⟨av', q⟩ hb => ⟨av', q.below hb⟩) hS).mono fun e w' q => q
  | some y =>
    obtain ⟨m, wd, l1⟩ := y
    simp only [h1] at hS
    dsimp only
    obtain ⟨u1, eu1, -⟩ := szW_left h1
    dsimp only at eu1
    cases h2 : szP pr0 sp l1 with
    | none =>
      simp only [h2] at hS
      exact (part_sbad W g m0 p b a z wd0 pr0 (c : Int) sw sp nx (fun w' => ∃ av', Wt w0 w' B g S k av' C by' o) (fun _ _ ⟨av', q⟩ hb => ⟨av', q.below hb⟩) hS).mono fun e w' q => q
    | some y2 =>
      obtain ⟨pr, l2⟩ := y2
      simp only [h2] at hS
      dsimp only
      obtain ⟨u2, eu2, -⟩ := szP_left h2
      dsimp only at eu2
      have hin : ∀ q ∈ l2, q ∈ l := fun q hq => by rw [eu1, eu2]; simp [hq]
      have g1 : Going fun w' => ∃ av', ArgV w0 av' l2 ∧ Wt w0 w' B g S k av' C by' o := fun _ _ ⟨av', q0, q⟩ hb => ⟨av', q0, q.below hb⟩
      have hSz : SzOk W g m0 p b a z wd0 pr0 (c : Int) sw sp nx m wd pr (fun w' => ∃ av', ArgV w0 av' l2 ∧ Wt w0 w' B g S k av' C by' o) := hS
      by_cases h37 : c = 37
      · rw [if_pos h37]
        subst h37
        have := part_pct W g m0 p b a z wd0 pr0 37 sw sp nx m wd pr _ g1 hSz rfl
        by_cases hk : chkB wd pr 37 = true
        · rw [if_pos hk] at this ⊢
          exact this.mono fun e w' q => q
        · rw [if_neg hk] at this ⊢
          exact this.mono fun e w' q => ⟨_, q.1, q.2.choose, q.2.choose_spec.2⟩
      · rw [if_neg h37]
        cases l2 with
        | nil =>
          exact part_empty W g m0 p b a z wd0 pr0 (c : Int) sw sp nx m wd pr _ (fun w' => ∃ av', Wt w0 w' B g S k av' C by' o) g1 (fun _ _ ⟨av', q⟩ hb => ⟨av', q.below hb⟩) hSz (by omega) (fun W' ⟨av', q0, q⟩ => (wNext_any w0 W' B g S k C by' o [] av' q0 q).mono fun e w' z => ⟨z.1, av', z.2.1⟩)
        | cons y t =>
          have hy := hin y (List.mem_cons_self ..)
          have hyf := hV.fine y hy
          have g2 : Going fun w' => ∃ av', ArgV w0 av' t ∧ Wt w0 w' B g S k av' C by' o := fun _ _ ⟨av', q0, q⟩ hb => ⟨av', q0, q.below hb⟩
          have hN : NxOk g (fun w' => ∃ av', ArgV w0 av' (y :: t) ∧ Wt w0 w' B g S k av' C by' o) (fun w' => ∃ av', ArgV w0 av' t ∧ Wt w0 w' B g S k av' C by' o) y := fun W' ⟨av', q0, q⟩ => wNext_any w0 W' B g S k C by' o (y :: t) av' q0 q
          have hg : ∀ W', (∃ av', ArgV w0 av' (y :: t) ∧ Wt w0 W' B g S k av' C by' o) → g < W'.heap.size := fun W' ⟨av', q0, q⟩ => q.size.2
          have hw : ∀ W', (∃ av', ArgV w0 av' t ∧ Wt w0 W' B g S k av' C by' o) → W'.cell? ⟨g, 3, none⟩ = some (.string C) ∧ W'.cell? ⟨g, 4, none⟩ = some (.bool by') := fun W' ⟨av', q0, q⟩ => ⟨q.cells.2.2.2.1, q.cells.2.2.2.2.1⟩
          dsimp only
          by_cases h115 : c = 115
          · subst h115
            have hsz : (wrT y.kind y.str (cv y.bits)).size ≤ 140737488355328 := by
              rcases hz with hz | hz
              · have := (hz y hy).1; omega
              · exact hz.2.2.2.2.2 y hy
            have hstr : ∀ W', (∃ av', ArgV w0 av' t ∧ Wt w0 W' B g S k av' C by' o) → Calls Tryz.prog 52 #[.agg #[.int .i64 y.kind, .float .f64 y.bits, .string y.str], .string C] W' fun e w' => e = .returned (.string (wrT y.kind y.str (cv y.bits))) ∧ Below W'.heap.size W' w' := fun W' ⟨av', q0, q⟩ =>
              cString_any y.kind y.bits y.str C (cv y.bits) W' (hV.conv y hy) (tT q) hsz
            by_cases hk : chkB wd pr 115 = true
            · rw [if_pos hk]
              unfold oneT
              rw [if_pos rfl]
              refine (part_s W g m0 p b a z wd0 pr0 sw sp nx m wd pr _ _ y C _ ⟨(textT m wd pr 115 (wrT y.kind y.str (cv y.bits)) by').toArray⟩ by' 0 g1 g2 hSz hN hg hw hstr ?_).mono fun e w' q => q
              rintro W' ⟨av', q0, q⟩
              rcases hz with hz | hz
              · exact ftext_yes m p b a z by' wd pr 115 _ W' (hz y hy).1 hx hk vText_s (tU q)
              · obtain ⟨-, e1, e2, e3, e4, -⟩ := hz
                dsimp only at e1 e2 e3 e4
                subst e1 e2 e3 e4
                unfold szW at h1
                unfold szP at h2
                rw [if_neg (by decide)] at h1 h2
                simp only [Option.some.injEq, Prod.mk.injEq] at h1 h2
                obtain ⟨rfl, rfl, rfl⟩ := h1
                obtain ⟨rfl, -⟩ := h2
                have := fun m => ftext_bare m p b a z by' (wrT y.kind y.str (cv y.bits)) W' hsz
                rw [textT_m, Lib.mk_data]
                exact this _
            · rw [if_neg hk]
              refine (part_s W g m0 p b a z wd0 pr0 sw sp nx m wd pr _ _ y C _ ⟨#[]⟩ by' 50 g1 g2 hSz hN hg hw hstr ?_).mono fun e w' q => ⟨_, q.1, q.2.choose, q.2.choose_spec.2⟩
              rintro W' ⟨av', q0, q⟩
              exact ftext_no m p b a z by' wd pr 115 _ W' (Or.inl (by cases q : chkB wd pr 115 with | true => exact absurd q hk | false => rfl))
          · have hz1 : Short cv l := by
              rcases hz with hz | hz
              · exact hz
              · exact absurd hz.1 h115
            by_cases h99 : c = 99
            · subst h99
              have hch : ∀ W', (∃ av', ArgV w0 av' t ∧ Wt w0 W' B g S k av' C by' o) → Calls Tryz.prog 147 #[.pointer (some ⟨g, 0, none⟩), .agg #[.int .i64 y.kind, .float .f64 y.bits, .string y.str]] W' fun e w' => e = .returned (.string (letB y by')) ∧ Below W'.heap.size W' w' := fun W' ⟨av', q0, q⟩ =>
                wChar_any W' g y by' q.cells.2.2.2.2.1 hyf (hz1 y hy).2 (tU q)
              by_cases hk : chkB wd pr 99 = true
              · rw [if_pos hk]
                unfold oneT
                rw [if_neg (by dsimp only; omega), if_pos rfl]
                refine (part_c W g m0 p b a z wd0 pr0 sw sp nx m wd pr _ _ y C _ ⟨(textT m wd pr 99 (letB y by') by').toArray⟩ by' 0 g1 g2 hSz hN hg hw hch ?_).mono fun e w' q => q
                rintro W' ⟨av', q0, q⟩
                exact ftext_yes m p b a z by' wd pr 99 _ W' (let_size y by' (hz1 y hy).2) hx hk vText_c (tU q)
              · rw [if_neg hk]
                refine (part_c W g m0 p b a z wd0 pr0 sw sp nx m wd pr _ _ y C _ ⟨#[]⟩ by' 50 g1 g2 hSz hN hg hw hch ?_).mono fun e w' q => ⟨_, q.1, q.2.choose, q.2.choose_spec.2⟩
                rintro W' ⟨av', q0, q⟩
                exact ftext_no m p b a z by' wd pr 99 _ W' (Or.inl (by cases q : chkB wd pr 99 with | true => exact absurd q hk | false => rfl))
            · have hnum : ∀ W', (∃ av', ArgV w0 av' t ∧ Wt w0 W' B g S k av' C by' o) → Calls Tryz.prog 53 #[.agg #[.int .i64 y.kind, .float .f64 y.bits, .string y.str]] W' fun e w' => e = .returned (.float .f64 y.num) ∧ Below W'.heap.size W' w' := fun W' _ => cNumber_any y.kind y.bits y.str W' hyf.str
              have hwr : ∀ W', (∃ av', ArgV w0 av' t ∧ Wt w0 W' B g S k av' C by' o) → Calls Tryz.prog 135 #[.agg (spi m p b a z wd pr (c : Int)), .float .f64 y.num] W' fun e w' => e = .returned (.tuple #[.string ⟨(numT m p b a z wd pr c y.num).toArray⟩, .int .i64 (numE wd pr c)]) ∧ Below W'.heap.size W' w' := fun W' ⟨av', q0, q⟩ => number_any m p b a z wd pr c y.num W' hx (num_lt y hyf) (tT q)
              have hp := part_n W g m0 p b a z wd0 pr0 sw sp nx m wd pr _ _ y (c : Int) y.num _ _ (by rw [beq_eq_false_iff_ne]; omega) (by rw [beq_eq_false_iff_ne]; omega) (by rw [beq_eq_false_iff_ne]; omega) g1 g2 hSz hN hg hnum hwr
              have hn := num_verb hx hv h37 h115 h99
              by_cases hk : chkB wd pr c = true
              · rw [if_pos hk]
                unfold oneT
                rw [if_neg h115, if_neg h99]
                have e0 : numE wd pr c = 0 := by unfold numE; rw [if_pos ⟨hk, hn⟩]
                rw [e0] at hp
                exact hp.mono fun e w' q => q
              · rw [if_neg hk]
                have e0 : numE wd pr c = 50 := by unfold numE; rw [if_neg (fun q => hk q.1)]
                rw [e0] at hp
                exact hp.mono fun e w' q => ⟨_, q.1, q.2.choose, q.2.choose_spec.2⟩
end Go.Proofs.YtddfigbpckhfbaaGreatDoor

namespace Go.Proofs.YtddfigbpckhfbaaGreatDoor
open Go.RowKit Go.Lib

theorem atB_get {s : ByteArray} {n : Nat} {x : UInt8} (h : s.data.toList[n]? = some x) : atB s n = x.toNat := by
  rw [atB_list, h]; rfl
/-- What Cut gives of a text: the bytes ahead of the first percent sign. -/
def CutOf (s : ByteArray) (e : Ending) : Prop := ∃ (n : Nat) (T : ByteArray) (F : Bool), n ≤ s.size ∧ (∀ i, i < n → atB s i ≠ 37) ∧ (n = s.size ∨ atB s n = 37) ∧ e = .returned (.tuple #[.string (s.extract 0 n), .string T, .bool F])
set_option maxRecDepth 100000 in
set_option maxHeartbeats 2000000 in
theorem cutL_say (s : ByteArray) (w : World) (hs : s.size ≤ 4611686018427387904) :
    Calls Tryz.prog 139 #[.string s, .string ⟨#[37]⟩] w fun e w' => CutOf s e ∧ Below w.heap.size w w' := by
  have cI := fun W => Tryz.stringslite_Index_one s 37 W
  have hge := Lib.indexByte_ge s.data.toList 37
  by_cases h : Lib.indexByte s.data.toList 37 = -1
  · have hno := Lib.indexByte_none h
    rw [h] at cI
    have CI := Lib.hid cI
    have hse : s.extract 0 s.size = s := ByteArray.extract_zero_size
    have HF := Lib.hid (show ∀ T F, CutOf s (.returned (.tuple #[.string s, .string T, .bool F])) from fun T F => ⟨s.size, T, F, Nat.le_refl _, fun i hi q => by
      have := hno i
      have hl : i < s.data.toList.length := by rw [ba_len]; exact hi
      rw [List.getElem?_eq_getElem hl] at this
      have h2 := atB_get (s := s) (n := i) (List.getElem?_eq_getElem hl)
      exact this (by rw [UInt8.toNat_inj.1 (h2.symm.trans q : (s.data.toList[i]'hl).toNat = (37 : UInt8).toNat)]), Or.inl rfl, by rw [hse]⟩)
    clear cI h hge hno hse
    go_enter Tryz.func139, Tryz.ntmps139
    go_wp2_with fail
    refine (CI.out _).mono ?_
    rintro e w' ⟨rfl, rfl⟩
    go_wp2_with fail
    go_ret3
    exact ⟨HF.out _ _, Below.refl _ _⟩
  · obtain ⟨n, hn⟩ : ∃ n : Nat, Lib.indexByte s.data.toList 37 = (n : Int) := ⟨(Lib.indexByte s.data.toList 37).toNat, by omega⟩
    obtain ⟨h1, h2⟩ := Lib.indexByte_some hn
    rw [hn] at cI
    have hlt : n < s.size := by
      rw [← ba_len]
      exact (List.getElem?_eq_some_iff.1 h1).1
    have HF := Lib.hid (show ∀ T F, CutOf s (.returned (.tuple #[.string (s.extract 0 n), .string T, .bool F])) from fun T F => ⟨n, T, F, by omega, fun i hi q => by
      have := h2 i hi
      have hl : i < s.data.toList.length := by rw [ba_len]; omega
      rw [List.getElem?_eq_getElem hl] at this
      have h3 := atB_get (s := s) (n := i) (List.getElem?_eq_getElem hl)
      exact this (by rw [UInt8.toNat_inj.1 (h3.symm.trans q : (s.data.toList[i]'hl).toNat = (37 : UInt8).toNat)]), Or.inr (by rw [atB_get h1]; rfl), rfl⟩)
    have CI := Lib.hid cI
    clear cI h hge h1 h2 hn
    have i1 : (n : Int) ≤ (s.size : Int) := by omega
    have i0 : (0 : Int) ≤ (n : Int) := by omega
    have i2 : (n : Int) + 1 ≤ (s.size : Int) := by omega
    have i3 : (0 : Int) ≤ (n : Int) + 1 := by omega
    have hw1 : IntKind.i64.wrap ((n : Int) + 1) = (n : Int) + 1 := by rw [IntKind.wrap_i64]; omega
    have hw2 : wrap64 ((n : Int) + 1) = (n : Int) + 1 := by unfold wrap64; omega
    go_enter Tryz.func139, Tryz.ntmps139
    go_wp2_with fail
    refine (CI.out _).mono ?_
    rintro e w' ⟨rfl, rfl⟩
    go_wp2_with fail
    go_quiet (fail)
    go_wp2_with fail
    go_ret3
    exact ⟨HF.out _ _, below_drewN (Below.refl _ _) _⟩
theorem cut_say (s : ByteArray) (w : World) (hs : s.size ≤ 4611686018427387904) :
    Calls Tryz.prog 93 #[.string s, .string ⟨#[37]⟩] w fun e w' => CutOf s e ∧ Below w.heap.size w w' := by
  have C := Lib.hid (cutL_say s w hs)
  go_enter Tryz.func93, Tryz.ntmps93
  go_wp2_with fail
  refine C.out.mono ?_
  rintro e w' ⟨⟨n, T, F, q1, q2, q3, rfl⟩, hB⟩
  go_wp2_with fail
  go_ret3
  exact ⟨⟨n, T, F, q1, q2, q3, rfl⟩, hB⟩
end Go.Proofs.YtddfigbpckhfbaaGreatDoor

namespace Go.Proofs.YtddfigbpckhfbaaGreatDoor
open Go.RowKit Go.Lib

theorem below_set11 {W : World} {Q : Nat} (v0 v1 v2 v3 v4 v5 v6 v7 v8 v9 v10 : Value) : Below Q W (((((((((((W.setCell ⟨Q, 0, none⟩ v0).setCell ⟨Q, 1, none⟩ v1).setCell ⟨Q, 2, none⟩ v2).setCell ⟨Q, 3, none⟩ v3).setCell ⟨Q, 4, none⟩ v4).setCell ⟨Q, 5, none⟩ v5).setCell ⟨Q, 6, none⟩ v6).setCell ⟨Q, 7, none⟩ v7).setCell ⟨Q, 8, none⟩ v8).setCell ⟨Q, 9, none⟩ v9).setCell ⟨Q, 10, none⟩ v10) := ((((((((((((Below.refl Q W).setCell (p := ⟨Q, 0, none⟩) (Nat.le_refl _) v0).setCell (p := ⟨Q, 1, none⟩) (Nat.le_refl _) v1).setCell (p := ⟨Q, 2, none⟩) (Nat.le_refl _) v2).setCell (p := ⟨Q, 3, none⟩) (Nat.le_refl _) v3).setCell (p := ⟨Q, 4, none⟩) (Nat.le_refl _) v4).setCell (p := ⟨Q, 5, none⟩) (Nat.le_refl _) v5).setCell (p := ⟨Q, 6, none⟩) (Nat.le_refl _) v6).setCell (p := ⟨Q, 7, none⟩) (Nat.le_refl _) v7).setCell (p := ⟨Q, 8, none⟩) (Nat.le_refl _) v8).setCell (p := ⟨Q, 9, none⟩) (Nat.le_refl _) v9).setCell (p := ⟨Q, 10, none⟩) (Nat.le_refl _) v10)
theorem five11 {W : World} {B : Nat} {t : TypeId} {a0 a1 a2 a3 a4 a5 a6 a7 a8 a9 a10 : Value} (v0 v1 v2 v3 v4 v5 v6 v7 v8 v9 v10 : Value) (F : Five W B #[a0, a1, a2, a3, a4, a5, a6, a7, a8, a9, a10] t) : Five (((((((((((W.setCell ⟨B, 0, none⟩ v0).setCell ⟨B, 1, none⟩ v1).setCell ⟨B, 2, none⟩ v2).setCell ⟨B, 3, none⟩ v3).setCell ⟨B, 4, none⟩ v4).setCell ⟨B, 5, none⟩ v5).setCell ⟨B, 6, none⟩ v6).setCell ⟨B, 7, none⟩ v7).setCell ⟨B, 8, none⟩ v8).setCell ⟨B, 9, none⟩ v9).setCell ⟨B, 10, none⟩ v10) B #[v0, v1, v2, v3, v4, v5, v6, v7, v8, v9, v10] t := by
  replace F : Five (W.setCell ⟨B, 0, none⟩ v0) B #[v0, a1, a2, a3, a4, a5, a6, a7, a8, a9, a10] t := F.set (j := 0) (u := v0)
  generalize (W.setCell ⟨B, 0, none⟩ v0) = W1 at *
  replace F : Five (W1.setCell ⟨B, 1, none⟩ v1) B #[v0, v1, a2, a3, a4, a5, a6, a7, a8, a9, a10] t := F.set (j := 1) (u := v1)
  generalize (W1.setCell ⟨B, 1, none⟩ v1) = W2 at *
  replace F : Five (W2.setCell ⟨B, 2, none⟩ v2) B #[v0, v1, v2, a3, a4, a5, a6, a7, a8, a9, a10] t := F.set (j := 2) (u := v2)
  generalize (W2.setCell ⟨B, 2, none⟩ v2) = W3 at *
  replace F : Five (W3.setCell ⟨B, 3, none⟩ v3) B #[v0, v1, v2, v3, a4, a5, a6, a7, a8, a9, a10] t := F.set (j := 3) (u := v3)
  generalize (W3.setCell ⟨B, 3, none⟩ v3) = W4 at *
  replace F : Five (W4.setCell ⟨B, 4, none⟩ v4) B #[v0, v1, v2, v3, v4, a5, a6, a7, a8, a9, a10] t := F.set (j := 4) (u := v4)
  generalize (W4.setCell ⟨B, 4, none⟩ v4) = W5 at *
  replace F : Five (W5.setCell ⟨B, 5, none⟩ v5) B #[v0, v1, v2, v3, v4, v5, a6, a7, a8, a9, a10] t := F.set (j := 5) (u := v5)
  generalize (W5.setCell ⟨B, 5, none⟩ v5) = W6 at *
  replace F : Five (W6.setCell ⟨B, 6, none⟩ v6) B #[v0, v1, v2, v3, v4, v5, v6, a7, a8, a9, a10] t := F.set (j := 6) (u := v6)
  generalize (W6.setCell ⟨B, 6, none⟩ v6) = W7 at *
  replace F : Five (W7.setCell ⟨B, 7, none⟩ v7) B #[v0, v1, v2, v3, v4, v5, v6, v7, a8, a9, a10] t := F.set (j := 7) (u := v7)
  generalize (W7.setCell ⟨B, 7, none⟩ v7) = W8 at *
  replace F : Five (W8.setCell ⟨B, 8, none⟩ v8) B #[v0, v1, v2, v3, v4, v5, v6, v7, v8, a9, a10] t := F.set (j := 8) (u := v8)
  generalize (W8.setCell ⟨B, 8, none⟩ v8) = W9 at *
  replace F : Five (W9.setCell ⟨B, 9, none⟩ v9) B #[v0, v1, v2, v3, v4, v5, v6, v7, v8, v9, a10] t := F.set (j := 9) (u := v9)
  generalize (W9.setCell ⟨B, 9, none⟩ v9) = W10 at *
  exact F.set (j := 10) (u := v10)
theorem ext_at {S : ByteArray} {k i : Nat} (h : i < S.size - k) : atB (S.extract k S.size) i = atB S (k + i) := by
  rw [atB_list, atB_list, ByteArray.data_extract, Array.toList_extract]
  simp only [List.extract_eq_take_drop]
  rw [List.getElem?_take_of_lt (by rw [← ba_len] at h; have := ba_len S; omega), List.getElem?_drop]
theorem ext_ext {S : ByteArray} {k n : Nat} (hk : k ≤ S.size) (h : n ≤ S.size - k) : (S.extract k S.size).extract 0 n = S.extract k (k + n) := by
  rw [ByteArray.extract_extract]
  congr 1
  omega
set_option maxRecDepth 100000 in
set_option maxHeartbeats 8000000 in
/-- A run of plain bytes: they are written. -/
theorem step_plain (W : World) (g : Nat) (S : ByteArray) (k : Nat) (R : Ending → World → Prop) (hk : k < S.size) (hS : S.size ≤ 4611686018427387904)
    (c0 : W.cell? ⟨g, 0, none⟩ = some (.string S)) (c1 : W.cell? ⟨g, 1, none⟩ = some (.int .i64 (k : Int))) (f1 : W.frozen? ⟨g, 1, none⟩ = false) (h37 : atB S k ≠ 37)
    (hWr : ∀ (n : Nat) (W' : World), 0 < n → k + n ≤ S.size → (∀ i, i < n → atB S (k + i) ≠ 37) → Below W.heap.size W W' → Calls Tryz.prog 94 #[.pointer (some ⟨g, 0, none⟩), .string (S.extract k (k + n))] (W'.setCell ⟨g, 1, none⟩ (.int .i64 ((k : Int) + (n : Int)))) fun e w' => (∃ E, e = .returned (.int .i64 E)) ∧ R e w') :
    Calls Tryz.prog 63 #[.pointer (some ⟨g, 0, none⟩)] W R := by
  have hgl := World.block_lt_of_cell? W _ c0
  simp only at hgl
  have hes : (S.extract k S.size).size = S.size - k := by rw [ByteArray.size_extract]; omega
  have CC := Lib.hid (fun (W' : World) => cut_say (S.extract k S.size) W' (by omega))
  have HWr := Lib.hid hWr
  have HCW := Lib.hid (fun (W' : World) (h : Below W.heap.size W W') => (show W'.cell? ⟨g, 0, none⟩ = some (.string S) ∧ W'.cell? ⟨g, 1, none⟩ = some (.int .i64 (k : Int)) from ⟨(h.cell (p := ⟨g, 0, none⟩) hgl).trans c0, (h.cell (p := ⟨g, 1, none⟩) hgl).trans c1⟩))
  have HF := Lib.hid (fun (W' : World) (h : Below W.heap.size W W') => (show W'.frozen? ⟨g, 1, none⟩ = false from (h.frozen (p := ⟨g, 1, none⟩) hgl).trans f1))
  have HC := Lib.hid (show ∀ n T F, CutOf (S.extract k S.size) (.returned (.tuple #[.string ((S.extract k S.size).extract 0 n), .string T, .bool F])) → True from fun _ _ _ _ => trivial)
  have hki : (k : Int) ≤ (S.size : Int) := by omega
  have hk0 : (0 : Int) ≤ (k : Int) := by omega
  have H37 := Lib.hid h37
  have HES := Lib.hid hes
  have hw0 : wrap64 ((k : Int) + 0) = (k : Int) := by unfold wrap64; omega
  clear hWr h37 hes
  go_enter Tryz.func63, Tryz.ntmps63
  go_wp2_with fail
  go_region_held3 (fun w' => w'.cell? ⟨g, 0, none⟩ = some (.string S) ∧ w'.cell? ⟨g, 1, none⟩ = some (.int .i64 (k : Int)))
    (first | (with_reducible exact S1) | go_keep)
    (first
    | (go_at_call 93; (with_reducible refine (CC.out _).mono ?_); rintro e W3 ⟨⟨n, T, F, q1, q2, q3, rfl⟩, h3⟩; have b3 : Below W.heap.size W W3 := ⟨h3.os, h3.tape, h3.output, h3.size, h3.block⟩; have S1 := HCW.out _ b3; clear h3))
  all_goals
    obtain ⟨d0, d1⟩ := S1
    have df := HF.out _ b3
    have hn1 : n ≤ S.size - k := by have := HES.out; omega
    have hn2 : ∀ i, i < n → atB S (k + i) ≠ 37 := fun i hi => by have := q2 i hi; rwa [ext_at (by omega)] at this
    have hn0 : 0 < n := by
      rcases Nat.eq_zero_or_pos n with e | e
      · subst e
        rcases q3 with q3 | q3
        · have := HES.out; omega
        · rw [ext_at (by omega)] at q3
          exact absurd q3 H37.out
      · exact e
    rw [ext_ext (by omega) hn1]
    have CW := Lib.hid (HWr.out n W3 hn0 (by omega) hn2 b3)
    have hXs : (S.extract k (k + n)).size = n := by rw [ByteArray.size_extract]; omega
    obtain ⟨X, hX⟩ : ∃ X, S.extract k (k + n) = X := ⟨_, rfl⟩
    have CW := CW.out
    rw [hX] at CW hXs ⊢
    have CW := Lib.hid CW
    have hw : wrap64 ((k : Int) + (n : Int)) = (k : Int) + (n : Int) := by unfold wrap64; omega
    have hw2 : IntKind.i64.wrap ((k : Int) + (n : Int)) = (k : Int) + (n : Int) := by rw [IntKind.wrap_i64]; omega
    have hxi : (X.size : Int) = (n : Int) := by omega
    rcases ba_empty_or X with e | ⟨x0, x1, x2, x3, x4, x5⟩
    · subst e
      exact absurd hXs (by show ¬ (0 = n); omega)
    clear q1 q2 q3 hX x0 hXs hki hk0
    go_wp2_with fail
    refine CW.out.mono ?_
    rintro e W4 ⟨⟨E, rfl⟩, hR⟩
    have HRR := Lib.hid hR
    clear hR
    go_wp2_with fail
    exact HRR.out
set_option maxRecDepth 100000 in
set_option maxHeartbeats 8000000 in
/-- A part that is none. -/
theorem step_bad (W : World) (g : Nat) (S : ByteArray) (k : Nat) (hk : k < S.size) (hS : S.size ≤ 4611686018427387904)
    (c0 : W.cell? ⟨g, 0, none⟩ = some (.string S)) (c1 : W.cell? ⟨g, 1, none⟩ = some (.int .i64 (k : Int))) (h37 : atB S k = 37) (hp : partF S k = none) :
    Calls Tryz.prog 63 #[.pointer (some ⟨g, 0, none⟩)] W fun e w' => e = .returned (.int .i64 50) ∧ Below W.heap.size W w' := by
  have hgl := World.block_lt_of_cell? W _ c0
  simp only at hgl
  have hes : (S.extract k S.size).size = S.size - k := by rw [ByteArray.size_extract]; omega
  have CC := Lib.hid (fun (W' : World) => cut_say (S.extract k S.size) W' (by omega))
  have hF : parseF S (k : Int) = partF S k := by unfold parseF; rw [if_pos (by omega), Int.toNat_natCast]
  have cP := fun W' => fparse_any S (k : Int) W' hS
  rw [hF, hp] at cP
  replace cP : ∀ W', Calls Tryz.prog 95 #[.string S, .int .i64 (k : Int)] W' fun e w' => e = .returned (.tuple #[.agg zc, .int .i64 50]) ∧ Below W'.heap.size W' w' := cP
  have CP := Lib.hid cP
  have HCW := Lib.hid (fun (W' : World) (h : Below W.heap.size W W') => (show W'.cell? ⟨g, 0, none⟩ = some (.string S) ∧ W'.cell? ⟨g, 1, none⟩ = some (.int .i64 (k : Int)) from ⟨(h.cell (p := ⟨g, 0, none⟩) hgl).trans c0, (h.cell (p := ⟨g, 1, none⟩) hgl).trans c1⟩))
  have hki : (k : Int) ≤ (S.size : Int) := by omega
  have hk0 : (0 : Int) ≤ (k : Int) := by omega
  have H37 := Lib.hid h37
  have HES := Lib.hid hes
  clear h37 hes cP hF hp
  go_enter Tryz.func63, Tryz.ntmps63
  go_wp2_with fail
  go_region_held3 (fun w' => w'.cell? ⟨g, 0, none⟩ = some (.string S) ∧ w'.cell? ⟨g, 1, none⟩ = some (.int .i64 (k : Int)))
    (first | (with_reducible exact S1) | go_keep)
    (first
    | (go_at_call 93; (with_reducible refine (CC.out _).mono ?_); rintro e W3 ⟨⟨n, T, F, q1, q2, q3, rfl⟩, h3⟩; have b3 : Below W.heap.size W W3 := ⟨h3.os, h3.tape, h3.output, h3.size, h3.block⟩; have S1 := HCW.out _ b3; clear h3))
  all_goals
    obtain ⟨d0, d1⟩ := S1
    have hn0 : n = 0 := by
      rcases Nat.eq_zero_or_pos n with e | e
      · exact e
      · have := q2 0 e
        rw [ext_at (by omega)] at this
        exact absurd H37.out this
    subst hn0
    rw [show (S.extract k S.size).extract 0 0 = ⟨#[]⟩ from by rw [ext_ext (by omega) (Nat.zero_le _)]; apply ByteArray.ext; simp]
    have HCW3 := Lib.hid (fun (W' : World) (h : Below W3.heap.size W3 W') => HCW.out _ (b3.trans (h.mono b3.size)))
    clear q1 q2 q3 hki hk0
    have n0 := World.new_ne W3 ⟨g, 0, none⟩ d0
    have n1 := World.new_ne W3 ⟨g, 1, none⟩ d1
    simp only at n0 n1
    go_wp2_with fail
    go_region_held3 (fun w' => w'.cell? ⟨g, 0, none⟩ = some (.string S) ∧ w'.cell? ⟨g, 1, none⟩ = some (.int .i64 (k : Int)))
      (first | (with_reducible exact S2) | go_keep)
      (first
      | (go_at_call 95; (with_reducible refine (CP.out _).mono ?_); rintro e W4 ⟨rfl, h4⟩; have h4' : Below (W3.alloc (.cells zc 96)).heap.size (W3.alloc (.cells zc 96)) W4 := ⟨h4.os, h4.tape, h4.output, h4.size, h4.block⟩; obtain ⟨⟨z0, z1, z2, z3, z4, z5, z6, z7, z8, z9, z10⟩, ⟨y0, y1, y2, y3, y4, y5, y6, y7, y8, y9, y10⟩⟩ := ((Five.new W3 zc 96).below h4').eleven; have b4 : Below W3.heap.size W3 W4 := ((Below.refl W3.heap.size W3).alloc (Nat.le_refl _) _).trans (h4'.mono (by simp)); have S2 := HCW3.out _ b4; clear h4 h4')
      | (go_at_call 95; (with_reducible refine (CP.out _).mono ?_); rintro e W4 ⟨rfl, h4⟩; have b4 : Below W3.heap.size W3 W4 := ⟨h4.os, h4.tape, h4.output, h4.size, h4.block⟩; have S2 := HCW3.out _ b4; have n4 := World.new_ne W4 ⟨g, 0, none⟩ S2.1; have n5 := World.new_ne W4 ⟨g, 1, none⟩ S2.2; clear h4))
  all_goals
    have HB3 := Lib.hid b3
    have HB4 := Lib.hid b4
    first
    | (have hz := z0
       have B5 := (HB3.out.trans ((HB4.out.trans (below_set11 (.bool false) (.bool false) (.bool false) (.bool false) (.bool false) (.int .i64 0) (.int .i64 0) (.int .u8 0) (.bool false) (.bool false) (.int .i64 0))).mono HB3.out.size))
       clear hz z0 z1 z2 z3 z4 z5 z6 z7 z8 z9 z10 y0 y1 y2 y3 y4 y5 y6 y7 y8 y9 y10)
    | (have hz := n4
       have B5 := (HB3.out.trans ((HB4.out.alloc (by have := HB4.out.size; omega) (.cells zc 96)).mono HB3.out.size))
       clear hz)
    have HB5 := Lib.hid B5
    clear B5 b3 b4
    go_wp2_with fail
    go_ret
    exact ⟨rfl, HB5.out⟩
set_option maxRecDepth 100000 in
set_option maxHeartbeats 8000000 in
/-- A part: it is written. -/
theorem step_part (W : World) (g : Nat) (S : ByteArray) (k : Nat) (hk : k < S.size) (hS : S.size ≤ 4611686018427387904)
    (c0 : W.cell? ⟨g, 0, none⟩ = some (.string S)) (c1 : W.cell? ⟨g, 1, none⟩ = some (.int .i64 (k : Int))) (f1 : W.frozen? ⟨g, 1, none⟩ = false) (h37 : atB S k = 37) (m p b a z : Bool) (wd pr : Int) (c : Nat) (sw sp : Bool) (nx : Nat) (hp : partF S k = some ⟨m, p, b, a, z, wd, pr, c, sw, sp, nx⟩) (R : Ending → World → Prop) (P : ByteArray → World → Prop)
    (hPt : ∀ W', Below W.heap.size W W' → Calls Tryz.prog 96 #[.pointer (some ⟨g, 0, none⟩), .agg #[.bool m, .bool p, .bool b, .bool a, .bool z, .int .i64 wd, .int .i64 pr, .int .u8 (c : Int), .bool sw, .bool sp, .int .i64 (nx : Int)]] (W'.setCell ⟨g, 1, none⟩ (.int .i64 (nx : Int))) fun e w' => (∃ r, e = .returned (.tuple #[.string r, .int .i64 50]) ∧ R (.returned (.int .i64 50)) w') ∨ (∃ r, e = .returned (.tuple #[.string r, .int .i64 0]) ∧ P r w'))
    (hWr : ∀ r W', P r W' → Calls Tryz.prog 94 #[.pointer (some ⟨g, 0, none⟩), .string r] W' fun e w' => (∃ E, e = .returned (.int .i64 E)) ∧ R e w') :
    Calls Tryz.prog 63 #[.pointer (some ⟨g, 0, none⟩)] W R := by
  have hgl := World.block_lt_of_cell? W _ c0
  simp only at hgl
  have hes : (S.extract k S.size).size = S.size - k := by rw [ByteArray.size_extract]; omega
  have CC := Lib.hid (fun (W' : World) => cut_say (S.extract k S.size) W' (by omega))
  have hF : parseF S (k : Int) = partF S k := by unfold parseF; rw [if_pos (by omega), Int.toNat_natCast]
  have cP := fun W' => fparse_any S (k : Int) W' hS
  rw [hF, hp] at cP
  replace cP : ∀ W', Calls Tryz.prog 95 #[.string S, .int .i64 (k : Int)] W' fun e w' => e = .returned (.tuple #[.agg #[.bool m, .bool p, .bool b, .bool a, .bool z, .int .i64 wd, .int .i64 pr, .int .u8 (c : Int), .bool sw, .bool sp, .int .i64 (nx : Int)], .int .i64 0]) ∧ Below W'.heap.size W' w' := cP
  have CP := Lib.hid cP
  have HCW := Lib.hid (fun (W' : World) (h : Below W.heap.size W W') => (show W'.cell? ⟨g, 0, none⟩ = some (.string S) ∧ W'.cell? ⟨g, 1, none⟩ = some (.int .i64 (k : Int)) from ⟨(h.cell (p := ⟨g, 0, none⟩) hgl).trans c0, (h.cell (p := ⟨g, 1, none⟩) hgl).trans c1⟩))
  have hki : (k : Int) ≤ (S.size : Int) := by omega
  have hk0 : (0 : Int) ≤ (k : Int) := by omega
  have H37 := Lib.hid h37
  have HES := Lib.hid hes
  have HPt := Lib.hid hPt
  have HWr := Lib.hid hWr
  have HFr := Lib.hid (fun (W' : World) (h : Below W.heap.size W W') => (show W'.frozen? ⟨g, 1, none⟩ = false from (h.frozen (p := ⟨g, 1, none⟩) hgl).trans f1))
  clear h37 hes cP hF hp hPt hWr f1
  go_enter Tryz.func63, Tryz.ntmps63
  go_wp2_with fail
  go_region_held3 (fun w' => w'.cell? ⟨g, 0, none⟩ = some (.string S) ∧ w'.cell? ⟨g, 1, none⟩ = some (.int .i64 (k : Int)))
    (first | (with_reducible exact S1) | go_keep)
    (first
    | (go_at_call 93; (with_reducible refine (CC.out _).mono ?_); rintro e W3 ⟨⟨n, T, F, q1, q2, q3, rfl⟩, h3⟩; have b3 : Below W.heap.size W W3 := ⟨h3.os, h3.tape, h3.output, h3.size, h3.block⟩; have S1 := HCW.out _ b3; clear h3))
  all_goals
    obtain ⟨d0, d1⟩ := S1
    have hn0 : n = 0 := by
      rcases Nat.eq_zero_or_pos n with e | e
      · exact e
      · have := q2 0 e
        rw [ext_at (by omega)] at this
        exact absurd H37.out this
    subst hn0
    rw [show (S.extract k S.size).extract 0 0 = ⟨#[]⟩ from by rw [ext_ext (by omega) (Nat.zero_le _)]; apply ByteArray.ext; simp]
    have HCW3 := Lib.hid (fun (W' : World) (h : Below W3.heap.size W3 W') => HCW.out _ (b3.trans (h.mono b3.size)))
    clear q1 q2 q3 hki hk0
    have n0 := World.new_ne W3 ⟨g, 0, none⟩ d0
    have n1 := World.new_ne W3 ⟨g, 1, none⟩ d1
    simp only at n0 n1
    go_wp2_with fail
    go_region_held3 (fun w' => w'.cell? ⟨g, 0, none⟩ = some (.string S) ∧ w'.cell? ⟨g, 1, none⟩ = some (.int .i64 (k : Int)))
      (first | (with_reducible exact S2) | go_keep)
      (first
      | (go_at_call 95; (with_reducible refine (CP.out _).mono ?_); rintro e W4 ⟨rfl, h4⟩; have h4' : Below (W3.alloc (.cells zc 96)).heap.size (W3.alloc (.cells zc 96)) W4 := ⟨h4.os, h4.tape, h4.output, h4.size, h4.block⟩; have F4 := Lib.hid ((Five.new W3 zc 96).below h4'); obtain ⟨⟨z0, z1, z2, z3, z4, z5, z6, z7, z8, z9, z10⟩, ⟨y0, y1, y2, y3, y4, y5, y6, y7, y8, y9, y10⟩⟩ := ((Five.new W3 zc 96).below h4').eleven; have b4 : Below W3.heap.size W3 W4 := ((Below.refl W3.heap.size W3).alloc (Nat.le_refl _) _).trans (h4'.mono (by simp)); have S2 := HCW3.out _ b4; clear h4 h4')
      | (go_at_call 95; (with_reducible refine (CP.out _).mono ?_); rintro e W4 ⟨rfl, h4⟩; have b4 : Below W3.heap.size W3 W4 := ⟨h4.os, h4.tape, h4.output, h4.size, h4.block⟩; have S2 := HCW3.out _ b4; have n4 := World.new_ne W4 ⟨g, 0, none⟩ S2.1; have n5 := World.new_ne W4 ⟨g, 1, none⟩ S2.2; clear h4))
  all_goals
    have HB3 := Lib.hid b3
    first
    | (have F5 := (five11 (.bool m) (.bool p) (.bool b) (.bool a) (.bool z) (.int .i64 wd) (.int .i64 pr) (.int .u8 (c : Int)) (.bool sw) (.bool sp) (.int .i64 (nx : Int)) F4.out)
       have B5 := (b3.trans ((b4.trans (below_set11 (.bool m) (.bool p) (.bool b) (.bool a) (.bool z) (.int .i64 wd) (.int .i64 pr) (.int .u8 (c : Int)) (.bool sw) (.bool sp) (.int .i64 (nx : Int)))).mono b3.size))
       have hne : g ≠ W3.heap.size := fun e => n0 e.symm
       obtain ⟨W5, hW5⟩ : ∃ W5, (((((((((((W4.setCell ⟨W3.heap.size, 0, none⟩ (.bool m)).setCell ⟨W3.heap.size, 1, none⟩ (.bool p)).setCell ⟨W3.heap.size, 2, none⟩ (.bool b)).setCell ⟨W3.heap.size, 3, none⟩ (.bool a)).setCell ⟨W3.heap.size, 4, none⟩ (.bool z)).setCell ⟨W3.heap.size, 5, none⟩ (.int .i64 wd)).setCell ⟨W3.heap.size, 6, none⟩ (.int .i64 pr)).setCell ⟨W3.heap.size, 7, none⟩ (.int .u8 (c : Int))).setCell ⟨W3.heap.size, 8, none⟩ (.bool sw)).setCell ⟨W3.heap.size, 9, none⟩ (.bool sp)).setCell ⟨W3.heap.size, 10, none⟩ (.int .i64 (nx : Int))) = W5 := ⟨_, rfl⟩
       obtain ⟨PB, hPB⟩ : ∃ PB, W3.heap.size = PB := ⟨_, rfl⟩
       rw [hW5] at F5 B5 ⊢
       rw [hPB] at F5 hne ⊢
       clear hW5 hPB z0 z1 z2 z3 z4 z5 z6 z7 z8 z9 z10 y0 y1 y2 y3 y4 y5 y6 y7 y8 y9 y10)
    | (have F5 := (Five.new W4 #[.bool m, .bool p, .bool b, .bool a, .bool z, .int .i64 wd, .int .i64 pr, .int .u8 (c : Int), .bool sw, .bool sp, .int .i64 (nx : Int)] 96)
       have B5 := (b3.trans ((b4.alloc (by have := b4.size; omega) (.cells #[.bool m, .bool p, .bool b, .bool a, .bool z, .int .i64 wd, .int .i64 pr, .int .u8 (c : Int), .bool sw, .bool sp, .int .i64 (nx : Int)] 96)).mono b3.size))
       have hne : g ≠ W4.heap.size := fun e => n4 e.symm
       obtain ⟨W5, hW5⟩ : ∃ W5, (W4.alloc (.cells #[.bool m, .bool p, .bool b, .bool a, .bool z, .int .i64 wd, .int .i64 pr, .int .u8 (c : Int), .bool sw, .bool sp, .int .i64 (nx : Int)] 96)) = W5 := ⟨_, rfl⟩
       obtain ⟨PB, hPB⟩ : ∃ PB, W4.heap.size = PB := ⟨_, rfl⟩
       rw [hW5] at F5 B5 ⊢
       rw [hPB] at F5 hne ⊢
       clear hW5 hPB)
  all_goals
    have S5 := HCW.out _ B5
    obtain ⟨e0, e1⟩ := S5
    have ef := HFr.out _ B5
    obtain ⟨⟨a0, a1, a2, a3, a4, a5, a6, a7, a8, a9, a10⟩, -⟩ := F5.eleven
    have CPt := Lib.hid (HPt.out _ B5)
    have HF5 := Lib.hid F5
    clear F5 d0 d1 S2 b3 b4 n0 n1
    go_wp2_with fail
    refine CPt.out.mono ?_
    rintro e W6 (⟨r, rfl, hR6⟩ | ⟨r, rfl, hP6⟩)
    · have HR6 := Lib.hid hR6
      clear hR6
      go_wp2_with fail
      first | exact HR6.out | (go_ret; exact HR6.out)
    · have CWr := Lib.hid (HWr.out r W6 hP6)
      clear hP6
      go_wp2_with fail
      refine CWr.out.mono ?_
      rintro e W7 ⟨⟨E, rfl⟩, hR7⟩
      have HR7 := Lib.hid hR7
      clear hR7
      go_wp2_with fail
      first | exact HR7.out | (go_ret; exact HR7.out)
end Go.Proofs.YtddfigbpckhfbaaGreatDoor

namespace Go.Proofs.YtddfigbpckhfbaaGreatDoor
open Go.RowKit Go.Lib

section
variable {cv : Nat → ByteArray} {by' : Bool}
/-- Where the first of two formats writes too much, both do. -/
theorem spr_first_long {F G : ByteArray} : ∀ n k l o e, F.size - k ≤ n → k ≤ F.size → sprR cv by' F k l o = .error 3 → sprR cv by' (F ++ G) k (l ++ e) o = .error 3 := by
  intro n
  induction n with
  | zero =>
    intro k l o e hn hk h
    rw [spr_done (by omega)] at h
    cases h
  | succ n ih =>
    intro k l o e hn hk h
    by_cases hlt : k < F.size
    · have hat := atB_left (F := F) (G := G) hlt
      by_cases h37 : atB F k = 37
      · cases hp : partF F k with
        | none => rw [spr_bad hlt h37 hp] at h; cases h
        | some x =>
          obtain ⟨q1, q2, -⟩ := part_ends hp
          cases ht : textP cv by' x l with
          | none => rw [spr_no hp ht] at h; cases h
          | some y =>
            rw [spr_part hp (t := y.1) (l' := y.2) ht] at h
            rw [spr_part (part_left hp) (textP_more (t := y.1) (l' := y.2) ht e)]
            split at h
            · rename_i hl; rw [if_pos hl]
            · rename_i hl
              rw [if_neg hl]
              exact ih _ _ _ e (by omega) q2 h
      · rw [spr_byte hlt h37] at h
        rw [spr_byte (by rw [size_two]; omega) (by rw [hat]; exact h37), hat]
        split at h
        · rename_i hl; rw [if_pos hl]
        · rename_i hl
          rw [if_neg hl]
          exact ih _ _ _ e (by omega) (by omega) h
    · rw [spr_done (by omega)] at h
      cases h
theorem spr_two {F G : ByteArray} {l l' : List Cl} {o a : List UInt8} (h : sprR cv by' F 0 l o = .ok (a, l')) : sprR cv by' (F ++ G) 0 l o = sprR cv by' G 0 l' a := by
  have h1 := spr_first (G := G) F.size 0 l o a l' [] (by omega) (Nat.zero_le _) h
  rw [List.append_nil, List.append_nil] at h1
  rw [h1]
  exact spr_second (F := F) (G := G) G.size 0 l' a (by omega) (Nat.zero_le _)
theorem spr_two_long {F G : ByteArray} {l : List Cl} {o : List UInt8} (h : sprR cv by' F 0 l o = .error 3) : sprR cv by' (F ++ G) 0 l o = .error 3 := by
  have h1 := spr_first_long (G := G) F.size 0 l o [] (by omega) (Nat.zero_le _) h
  rwa [List.append_nil] at h1
/-- A part that is two percent signs. -/
def ppS : ByteArray := ⟨#[37, 37]⟩
def psS : ByteArray := ⟨#[37, 115]⟩
theorem part_pp : partF ppS 0 = some ⟨false, false, false, false, false, 0, -1, 37, false, false, 2⟩ := by rfl
theorem part_ps : partF psS 0 = some ⟨false, false, false, false, false, 0, -1, 115, false, false, 2⟩ := by rfl
theorem text_pp (l : List Cl) : textP cv by' ⟨false, false, false, false, false, 0, -1, 37, false, false, 2⟩ l = some ([37], l) := by
  unfold textP szW szP
  rw [if_neg (by decide)]
  dsimp only
  rw [if_neg (by decide)]
  dsimp only
  rw [if_pos rfl, if_pos (by decide)]
theorem textT_plain (s : ByteArray) (b : Bool) : textT false 0 (-1) 115 s b = s.data.toList := by
  unfold textT
  have e : cutT (-1) 115 s b = s := by unfold cutT; rw [if_neg (by omega)]
  rw [e]
  unfold fillL
  rw [if_neg (by decide), show (0 - (cnt s b : Int)).toNat = 0 by omega]
  rfl
theorem text_ps (c : Cl) (l : List Cl) : textP cv by' ⟨false, false, false, false, false, 0, -1, 115, false, false, 2⟩ (c :: l) = some ((wrT c.kind c.str (cv c.bits)).data.toList, l) := by
  unfold textP szW szP
  rw [if_neg (by decide)]
  dsimp only
  rw [if_neg (by decide)]
  dsimp only
  rw [if_neg (by decide), if_pos (by decide)]
  unfold oneT
  dsimp only
  rw [if_pos rfl, textT_plain]
theorem spr_pp {l : List Cl} {o : List UInt8} : sprR cv by' ppS 0 l o = if 1024 < o.length + 1 then .error 3 else .ok (o ++ [37], l) := by
  rw [spr_part part_pp (text_pp l)]
  show (if 1024 < o.length + 1 then _ else sprR cv by' ppS 2 l (o ++ [37])) = _
  rw [spr_done (Nat.le_refl 2)]
theorem spr_ps {c : Cl} {l : List Cl} {o : List UInt8} (hk : c.kind = 2) : sprR cv by' psS 0 (c :: l) o = if 1024 < o.length + c.str.size then .error 3 else .ok (o ++ c.str.data.toList, l) := by
  have e : wrT c.kind c.str (cv c.bits) = c.str := by unfold wrT; rw [if_neg (by omega), if_pos (Or.inl hk)]
  rw [spr_part part_ps (text_ps c l), e, ba_len]
  show (if 1024 < o.length + c.str.size then _ else sprR cv by' psS 2 l (o ++ c.str.data.toList)) = _
  rw [spr_done (Nat.le_refl 2)]
/-- A text without a percent sign is written as it is. -/
theorem spr_text {D : ByteArray} {l : List Cl} {o : List UInt8} (h : ∀ i, i < D.size → atB D i ≠ 37) (ho : o.length ≤ 1024) : sprR cv by' D 0 l o = if 1024 < o.length + D.size then .error 3 else .ok (o ++ D.data.toList, l) := by
  rw [spr_run (n := D.size) (by omega) (fun i hi => by rw [Nat.zero_add]; exact h i hi) ho, Nat.zero_add, spr_done (Nat.le_refl _)]
  have e := bytesN_ext (S := D) (k := 0) (n := D.size) (by omega)
  rw [Nat.zero_add] at e
  rw [← e]
  congr 3
  rw [ByteArray.data_extract, Array.toList_extract]
  simp [List.extract_eq_take_drop]
  have := ba_len D
  rw [List.take_of_length_le (by omega)]
/-- With its percent signs doubled. -/
def dblL : List UInt8 → List UInt8
  | [] => []
  | c :: t => if c = 37 then 37 :: 37 :: dblL t else c :: dblL t
theorem dblL_snoc (l : List UInt8) (c : UInt8) : dblL (l ++ [c]) = dblL l ++ (if c = 37 then [37, 37] else [c]) := by
  induction l with
  | nil =>
    show dblL [c] = _
    unfold dblL
    split <;> rfl
  | cons x t ih =>
    show dblL (x :: (t ++ [c])) = _
    unfold dblL
    by_cases hx : x = 37
    · rw [if_pos hx, if_pos hx, ih]; rfl
    · rw [if_neg hx, if_neg hx, ih]; rfl
theorem dblL_len (l : List UInt8) : (dblL l).length ≤ 2 * l.length := by
  induction l with
  | nil => exact Nat.le_refl _
  | cons x t ih =>
    unfold dblL
    split
    · simp only [List.length_cons]; omega
    · simp only [List.length_cons]; omega
theorem mk_two (a b : List UInt8) : (⟨(a ++ b).toArray⟩ : ByteArray) = ⟨a.toArray⟩ ++ ⟨b.toArray⟩ := by
  apply ByteArray.ext
  rw [ByteArray.data_append]
  simp
theorem spr_dbl : ∀ (s : List UInt8) (l : List Cl) (o : List UInt8), o.length ≤ 1024 → sprR cv by' ⟨(dblL s).toArray⟩ 0 l o = if 1024 < o.length + s.length then .error 3 else .ok (o ++ s, l) := by
  intro s
  induction s with
  | nil =>
    intro l o ho
    show sprR cv by' ⟨#[]⟩ 0 l o = if 1024 < o.length + 0 then _ else .ok (o ++ [], l)
    rw [spr_done (S := ⟨#[]⟩) (show (⟨#[]⟩ : ByteArray).size ≤ 0 from Nat.le_refl 0), if_neg (by omega), List.append_nil]
  | cons c t ih =>
    intro l o ho
    have hb : ∀ (P : ByteArray), sprR cv by' P 0 l o = (if 1024 < o.length + 1 then .error 3 else .ok (o ++ [c], l)) → sprR cv by' (P ++ ⟨(dblL t).toArray⟩) 0 l o = if 1024 < o.length + (c :: t).length then .error 3 else .ok (o ++ c :: t, l) := by
      intro P hP
      by_cases h1 : 1024 < o.length + 1
      · rw [if_pos h1] at hP
        rw [spr_two_long hP, if_pos (by rw [List.length_cons]; omega)]
      · rw [if_neg h1] at hP
        rw [spr_two hP, ih l (o ++ [c]) (by rw [List.length_append]; show o.length + 1 ≤ 1024; omega)]
        rw [List.length_append, List.length_cons, List.append_assoc]
        show (if 1024 < o.length + 1 + t.length then _ else _) = _
        rw [show o.length + 1 + t.length = o.length + (t.length + 1) by omega]
        rfl
    by_cases hc : c = 37
    · have e : (⟨(dblL (c :: t)).toArray⟩ : ByteArray) = ppS ++ ⟨(dblL t).toArray⟩ := by
        rw [show dblL (c :: t) = [37, 37] ++ dblL t from by show (if c = 37 then _ else _) = _; rw [if_pos hc]; rfl, mk_two]
        rfl
      rw [e]
      subst hc
      exact hb ppS spr_pp
    · have e : (⟨(dblL (c :: t)).toArray⟩ : ByteArray) = ⟨#[c]⟩ ++ ⟨(dblL t).toArray⟩ := by
        rw [show dblL (c :: t) = [c] ++ dblL t from by show (if c = 37 then _ else _) = _; rw [if_neg hc]; rfl, mk_two]
      rw [e]
      refine hb _ ?_
      exact spr_text (D := ⟨#[c]⟩) (fun i hi => by
        have hi1 : i < 1 := hi
        have : i = 0 := by omega
        subst this
        show c.toNat ≠ 37
        intro q
        exact hc (UInt8.toNat_inj.1 q)) ho
/-- A part by s and some dashes. -/
def psD (d : ByteArray) : ByteArray := psS ++ d
theorem spr_psD {d : ByteArray} {c : Cl} {l : List Cl} {o : List UInt8} (hk : c.kind = 2) (hd : ∀ i, i < d.size → atB d i ≠ 37) (_ho : o.length ≤ 1024) : sprR cv by' (psD d) 0 (c :: l) o = if 1024 < o.length + (c.str.size + d.size) then .error 3 else .ok (o ++ (c.str ++ d).data.toList, l) := by
  have h1 := spr_ps (cv := cv) (by' := by') (c := c) (l := l) (o := o) hk
  unfold psD
  by_cases h : 1024 < o.length + c.str.size
  · rw [if_pos h] at h1
    rw [spr_two_long h1, if_pos (by omega)]
  · rw [if_neg h] at h1
    rw [spr_two h1, spr_text hd (by rw [List.length_append, ba_len]; omega), List.length_append, ba_len, toList_two, ← List.append_assoc, Nat.add_assoc]
/-- n parts by s, each with dashes behind. -/
def psN (d : ByteArray) : Nat → ByteArray
  | 0 => ⟨#[]⟩
  | n + 1 => psN d n ++ psD d
/-- What they write. -/
def psT (d : ByteArray) : List ByteArray → ByteArray
  | [] => ⟨#[]⟩
  | s :: t => (s ++ d) ++ psT d t
theorem prf_nil_r (a : ByteArray) : a ++ ⟨#[]⟩ = a := by apply ByteArray.ext; rw [ByteArray.data_append]; simp
theorem prf_nil_l (a : ByteArray) : (⟨#[]⟩ : ByteArray) ++ a = a := by apply ByteArray.ext; rw [ByteArray.data_append]; simp
theorem prf_assoc (a b c : ByteArray) : a ++ b ++ c = a ++ (b ++ c) := by apply ByteArray.ext; simp only [ByteArray.data_append, Array.append_assoc]
theorem psN_front (d : ByteArray) : ∀ n, psN d (n + 1) = psD d ++ psN d n := by
  intro n
  induction n with
  | zero =>
    show ⟨#[]⟩ ++ psD d = psD d ++ ⟨#[]⟩
    rw [prf_nil_r, prf_nil_l]
  | succ n ih =>
    show psN d (n + 1) ++ psD d = psD d ++ (psN d n ++ psD d)
    rw [ih, prf_assoc]
theorem psT_snoc (d : ByteArray) (l : List ByteArray) (s : ByteArray) : psT d (l ++ [s]) = psT d l ++ (s ++ d) := by
  induction l with
  | nil => show (s ++ d) ++ ⟨#[]⟩ = ⟨#[]⟩ ++ (s ++ d); rw [prf_nil_r, prf_nil_l]
  | cons x t ih =>
    show (x ++ d) ++ psT d (t ++ [s]) = (x ++ d) ++ psT d t ++ (s ++ d)
    rw [ih, ← prf_assoc]
theorem spr_psN {d : ByteArray} (hd : ∀ i, i < d.size → atB d i ≠ 37) : ∀ (ss : List ByteArray) (o : List UInt8), o.length ≤ 1024 →
    sprR cv by' (psN d ss.length) 0 (ss.map fun s => ⟨2, 0, s⟩) o = if 1024 < o.length + (psT d ss).size then .error 3 else .ok (o ++ (psT d ss).data.toList, []) := by
  intro ss
  induction ss with
  | nil =>
    intro o ho
    show sprR cv by' ⟨#[]⟩ 0 [] o = if 1024 < o.length + 0 then _ else .ok (o ++ [], [])
    rw [spr_done (S := ⟨#[]⟩) (show (⟨#[]⟩ : ByteArray).size ≤ 0 from Nat.le_refl 0), if_neg (by omega), List.append_nil]
  | cons s t ih =>
    intro o ho
    have h1 := spr_psD (cv := cv) (by' := by') (d := d) (c := ⟨2, 0, s⟩) (l := t.map fun s => ⟨2, 0, s⟩) (o := o) rfl hd ho
    dsimp only at h1
    rw [List.length_cons, psN_front, List.map_cons]
    have es : (psT d (s :: t)).size = (s.size + d.size) + (psT d t).size := by show ((s ++ d) ++ psT d t).size = _; rw [size_two, size_two]
    have el : (psT d (s :: t)).data.toList = (s ++ d).data.toList ++ (psT d t).data.toList := toList_two _ _
    by_cases h : 1024 < o.length + (s.size + d.size)
    · rw [if_pos h] at h1
      rw [spr_two_long h1, if_pos (by omega)]
    · rw [if_neg h] at h1
      rw [spr_two h1, ih _ (by rw [List.length_append, ba_len, size_two]; omega), List.length_append, ba_len, size_two, es, el, ← List.append_assoc, Nat.add_assoc]
end
end Go.Proofs.YtddfigbpckhfbaaGreatDoor
