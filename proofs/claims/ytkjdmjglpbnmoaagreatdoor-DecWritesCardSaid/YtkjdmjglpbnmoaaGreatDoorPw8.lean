/- Several texts in one (The walk of the law DecWrites). -/
import Derived.Test.YtkjdmjglpbnmoaaGreatDoorPw7
namespace Go.Proofs.YtkjdmjglpbnmoaaGreatDoor
open Go.RowKit Go.Lib

set_option maxRecDepth 100000 in
set_option maxHeartbeats 4000000 in
theorem decWrites_inf (b : Nat) (p : Int) (w : World) (hb : b < 18446744073709551616) (h : 9218868437227405312 ≤ mag b) :
    Calls Tryz.prog 4 #[.int .u64 (b : Int), .int .i64 p] w fun e w' => e = .returned (.bool true) ∧ Below w.heap.size w w' := by
  have hfr := fun W => run_f64from b W
  have CF := Lib.hid (lfixed_any w)
  have h2 : mag b / 4503599627370496 = 2047 := by have : mag b < 9223372036854775808 := Nat.mod_lt _ (by omega); omega
  have cR := fun W => rparts_no b W hb h h2
  have C1 := Lib.hid (fun W => fixed_inf b p W hb h)
  have C2 := Lib.hid (fun W => rfixed_inf b p W hb h cR)
  have C3 := Lib.hid (fun W => sci_inf b p W hb h)
  have C4 := Lib.hid (fun W => rsci_inf b p W cR)
  have C5 := Lib.hid (fun W => parts_no b W hb h)
  have C6 := Lib.hid cR
  clear cR h h2
  go_enter Tryz.func4, Tryz.ntmps4
  go_wp2_with fail
  refine CF.out.mono ?_
  rintro e w0 ⟨rfl, hB⟩
  go_wp2_with fail
  refine (C1.out _).mono ?_
  rintro e w1 ⟨rfl, nb⟩
  have hB := hB.trans (nb.mono hB.size)
  clear nb
  go_wp2_with fail
  refine (C2.out _).mono ?_
  rintro e w2 ⟨rfl, nb⟩
  have hB := hB.trans (nb.mono hB.size)
  clear nb
  go_wp2_with fail
  refine (C3.out _).mono ?_
  rintro e w3 ⟨rfl, nb⟩
  have hB := hB.trans (nb.mono hB.size)
  clear nb
  go_wp2_with fail
  refine (C4.out _).mono ?_
  rintro e w4 ⟨rfl, nb⟩
  have hB := hB.trans (nb.mono hB.size)
  clear nb
  go_wp2_with fail
  refine (C5.out _).mono ?_
  rintro e w' ⟨rfl, rfl⟩
  go_wp2_with fail
  refine (C6.out _).mono ?_
  rintro e w' ⟨rfl, rfl⟩
  go_wp2
  go_ret
  exact ⟨rfl, hB⟩
set_option maxRecDepth 100000 in
set_option maxHeartbeats 4000000 in
theorem decWrites_range (b : Nat) (p : Int) (w : World) (hb : b < 18446744073709551616) (h : mag b < 9218868437227405312) (hp : p < 0 ∨ 200 < p) :
    Calls Tryz.prog 4 #[.int .u64 (b : Int), .int .i64 p] w fun e w' => e = .returned (.bool true) ∧ Below w.heap.size w w' := by
  have hfr := fun W => run_f64from b W
  have CF := Lib.hid (lfixed_any w)
  have C1 := Lib.hid (fun W => fixed_range b p W hb h hp)
  have C2 := Lib.hid (fun W => rfixed_range b p W hb h hp)
  have C3 := Lib.hid (fun W => sci_range b p W hb h hp)
  have C4 := Lib.hid (fun W => rsci_range b p W hb h hp)
  have C5 := Lib.hid (fun W => parts_yes b W hb h)
  have C6 := Lib.hid (fun W => rparts_yes b W hb h)
  generalize manF (mag b) = m at *
  generalize expF (mag b) = E at *
  clear h hp
  go_enter Tryz.func4, Tryz.ntmps4
  go_wp2_with fail
  refine CF.out.mono ?_
  rintro e w0 ⟨rfl, hB⟩
  go_wp2_with fail
  refine (C1.out _).mono ?_
  rintro e w1 ⟨rfl, nb⟩
  have hB := hB.trans (nb.mono hB.size)
  clear nb
  go_wp2_with fail
  refine (C2.out _).mono ?_
  rintro e w2 ⟨rfl, nb⟩
  have hB := hB.trans (nb.mono hB.size)
  clear nb
  go_wp2_with fail
  refine (C3.out _).mono ?_
  rintro e w3 ⟨rfl, nb⟩
  have hB := hB.trans (nb.mono hB.size)
  clear nb
  go_wp2_with fail
  refine (C4.out _).mono ?_
  rintro e w4 ⟨rfl, nb⟩
  have hB := hB.trans (nb.mono hB.size)
  clear nb
  go_wp2_with fail
  refine (C5.out _).mono ?_
  rintro e w' ⟨rfl, rfl⟩
  go_wp2_with fail
  refine (C6.out _).mono ?_
  rintro e w' ⟨rfl, rfl⟩
  go_wp2
  go_ret
  exact ⟨rfl, hB⟩
set_option maxRecDepth 100000 in
set_option maxHeartbeats 4000000 in
theorem decWrites_zero (b : Nat) (p : Nat) (w : World) (hb : b < 18446744073709551616) (h : mag b < 9218868437227405312) (hp : p ≤ 200) (h0 : mag b = 0) :
    Calls Tryz.prog 4 #[.int .u64 (b : Int), .int .i64 p] w fun e w' => e = .returned (.bool true) ∧ Below w.heap.size w w' := by
  have hfr := fun W => run_f64from b W
  have CF := Lib.hid (lfixed_any w)
  have C1 := Lib.hid (fun W => fixed_yes b p W hb h hp)
  have C2 := Lib.hid (fun W => rfixed_yes b p W hb h hp)
  have C3 := Lib.hid (fun W => sci_zero b p W hb h0 hp)
  have C4 := Lib.hid (fun W => rsci_zero b p W hb h0 hp)
  have C5 := Lib.hid (fun W => parts_yes b W hb h)
  have C6 := Lib.hid (fun W => rparts_yes b W hb h)
  obtain ⟨m, hm⟩ : ∃ m, manF (mag b) = m := ⟨_, rfl⟩
  obtain ⟨E, hE⟩ : ∃ E, expF (mag b) = E := ⟨_, rfl⟩
  obtain ⟨F, hF⟩ : ∃ F : ByteArray, (⟨(fixT (decs (rnd (amN (mag b) * 10 ^ p) (amD (mag b)))) p).toArray⟩ : ByteArray) = F := ⟨_, rfl⟩
  rw [hm, hE] at C5 C6
  rw [hF] at C1 C2
  obtain ⟨Z, hZ⟩ : ∃ Z : ByteArray, (⟨(List.replicate (p + 1) (48 : UInt8)).toArray⟩ : ByteArray) = Z := ⟨_, rfl⟩
  rw [hZ] at C3 C4
  clear h hp h0 hm hE hF hZ
  go_enter Tryz.func4, Tryz.ntmps4
  go_wp2_with fail
  refine CF.out.mono ?_
  rintro e w0 ⟨rfl, hB⟩
  go_wp2_with fail
  refine (C1.out _).mono ?_
  rintro e w1 ⟨rfl, nb⟩
  have hB := hB.trans (nb.mono hB.size)
  clear nb
  go_wp2_with fail
  refine (C2.out _).mono ?_
  rintro e w2 ⟨rfl, nb⟩
  have hB := hB.trans (nb.mono hB.size)
  clear nb
  go_wp2_with fail
  refine (C3.out _).mono ?_
  rintro e w3 ⟨rfl, nb⟩
  have hB := hB.trans (nb.mono hB.size)
  clear nb
  go_wp2_with fail
  refine (C4.out _).mono ?_
  rintro e w4 ⟨rfl, nb⟩
  have hB := hB.trans (nb.mono hB.size)
  clear nb
  go_wp2_with fail
  refine (C5.out _).mono ?_
  rintro e w' ⟨rfl, rfl⟩
  go_wp2_with fail
  refine (C6.out _).mono ?_
  rintro e w' ⟨rfl, rfl⟩
  go_wp2
  go_ret
  exact ⟨rfl, hB⟩
set_option maxRecDepth 100000 in
set_option maxHeartbeats 4000000 in
theorem decWrites_pos (b : Nat) (p : Nat) (w : World) (hb : b < 18446744073709551616) (h : mag b < 9218868437227405312) (hp : p ≤ 200) (h0 : 0 < mag b) :
    Calls Tryz.prog 4 #[.int .u64 (b : Int), .int .i64 p] w fun e w' => e = .returned (.bool true) ∧ Below w.heap.size w w' := by
  have hfr := fun W => run_f64from b W
  have CF := Lib.hid (lfixed_any w)
  have C1 := Lib.hid (fun W => fixed_yes b p W hb h hp)
  have C2 := Lib.hid (fun W => rfixed_yes b p W hb h hp)
  have C3 := Lib.hid (fun W => sci_yes b p W hb h0 h hp)
  have C4 := Lib.hid (fun W => rsci_yes b p W hb h0 h hp)
  have HD0 := Lib.hid (amD_pos (mag b))
  have C5 := Lib.hid (fun W => parts_yes b W hb h)
  have C6 := Lib.hid (fun W => rparts_yes b W hb h)
  obtain ⟨m, hm⟩ : ∃ m, manF (mag b) = m := ⟨_, rfl⟩
  obtain ⟨E, hE⟩ : ∃ E, expF (mag b) = E := ⟨_, rfl⟩
  obtain ⟨F, hF⟩ : ∃ F : ByteArray, (⟨(fixT (decs (rnd (amN (mag b) * 10 ^ p) (amD (mag b)))) p).toArray⟩ : ByteArray) = F := ⟨_, rfl⟩
  rw [hm, hE] at C5 C6
  rw [hF] at C1 C2
  clear h hp h0 hm hE hF
  go_enter Tryz.func4, Tryz.ntmps4
  go_wp2_with fail
  refine CF.out.mono ?_
  rintro e w0 ⟨rfl, hB⟩
  go_wp2_with fail
  refine (C1.out _).mono ?_
  rintro e w1 ⟨rfl, nb⟩
  have hB := hB.trans (nb.mono hB.size)
  clear nb
  go_wp2_with fail
  refine (C2.out _).mono ?_
  rintro e w2 ⟨rfl, nb⟩
  have hB := hB.trans (nb.mono hB.size)
  clear nb
  go_wp2_with fail
  refine (C3.out _).mono ?_
  rintro e w3 ⟨⟨P1, M1, ok, rfl⟩, nb⟩
  have hB := hB.trans (nb.mono hB.size)
  have HO := Lib.hid ok.weak
  clear nb ok
  obtain ⟨B1, hB1⟩ : ∃ B1 : ByteArray, (⟨(decs M1).toArray⟩ : ByteArray) = B1 := ⟨_, rfl⟩
  rw [hB1]
  have HB1 := Lib.hid hB1
  clear hB1
  go_wp2_with fail
  refine (C4.out _).mono ?_
  rintro e w4 ⟨P2, M2, rfl, HW, nb⟩
  have hB := hB.trans (nb.mono hB.size)
  clear nb
  obtain ⟨rfl, rfl⟩ := HO.out.uniq HD0.out HW.out
  rw [HB1.out]
  go_wp2_with fail
  refine (C5.out _).mono ?_
  rintro e w' ⟨rfl, rfl⟩
  go_wp2_with fail
  refine (C6.out _).mono ?_
  rintro e w' ⟨rfl, rfl⟩
  go_wp2
  go_ret
  exact ⟨rfl, hB⟩
theorem decWrites_int (n p : Int) (w : World) (h0 : 0 ≤ n) (h1 : n ≤ 18446744073709551615) :
    Calls Tryz.prog 4 #[.int .u64 n, .int .i64 p] w fun e w' => e = .returned (.bool true) ∧ Below w.heap.size w w' := by
  obtain ⟨b, rfl⟩ : ∃ b : Nat, n = (b : Int) := ⟨n.toNat, by omega⟩
  rcases Nat.lt_or_ge (mag b) 9218868437227405312 with h | h
  · by_cases hp : p < 0 ∨ 200 < p
    · exact decWrites_range b p w (by omega) h hp
    · obtain ⟨q, rfl⟩ : ∃ q : Nat, p = (q : Int) := ⟨p.toNat, by omega⟩
      rcases Nat.eq_zero_or_pos (mag b) with h2 | h2
      · exact decWrites_zero b q w (by omega) h (by omega) h2
      · exact decWrites_pos b q w (by omega) h (by omega) h2
  · exact decWrites_inf b p w (by omega) h
end Go.Proofs.YtkjdmjglpbnmoaaGreatDoor
