/- Contracts of layer 13: strings.IndexAny at the blanks, whatever the text: long texts. -/
import Derived.Test.YtelhbkfhalpniaaDoorPCalPb
import Derived.Deep.WholeRow
import Derived.Test.YtelhbkfhalpniaaDoorQt1
import Derived.Test.YtelhbkfhalpniaaDoorQt2
import Derived.Test.YtelhbkfhalpniaaDoorQt3
import Derived.Test.YtelhbkfhalpniaaDoorQt4
import Derived.Test.YtelhbkfhalpniaaDoorQt5
namespace Go.Proofs.YtelhbkfhalpniaaDoor
open Go.RowKit Go.Lib Go.Joins

set_option maxRecDepth 100000 in
theorem cal_set_info : (Tryd.prog.info? (Tryd.lays153_ren.t 116)).map (·.size) = some 256 := by kernel_rfl   -- for 15
set_option maxRecDepth 100000 in
set_option maxHeartbeats 4000000 in
theorem idx_long (T : ByteArray) (w : World) (h8 : 8 < T.size) (hs : T.size ≤ 4611686018427387904) : Calls Tryd.prog 15 #[.string T, .string blanksB] w fun e w' => e = .returned (.int .i64 (Lib.indexAny T.data.toList blanksB.data.toList)) ∧ Below w.heap.size w w' := by
  have CU := Lib.hid (fun (W : World) => Tryd.strings_shouldUseASCIISet (T.size : Int) W)
  have CM := Lib.hid (fun (W : World) => Tryd.strings_makeASCIISet (fun w => cal_set_zero w) blanksB W (by decide) (ascii_of_all (by decide)))
  have hbs : (blanksB.size : Int) = 3 := rfl
  have h8z : decide ((8 : Int) < (T.size : Int)) = true := decide_eq_true (by omega)
  have hv := cal_set_zero
  have hi := cal_set_info
  have HG := Lib.hid (fun x : UInt8 => Lib.setCells_at blanksB.data.toList x)
  obtain ⟨C, hC⟩ : ∃ C, blanksB = C := ⟨_, rfl⟩
  have hemp : C.toList.isEmpty = false := by rw [← hC, Lib.toList_data]; rfl
  rw [hC] at CM hbs HG ⊢
  have hz256 := Lib.setCells_size C.data.toList
  have H0 := Lib.hid (Lib.NoAny.zero T.data.toList C.data.toList)
  clear hC
  go_enter Tryd.func15, Tryd.ntmps15
  go_wp2_with fail
  refine (CU.out _).mono ?_
  rintro e w' ⟨rfl, hw⟩
  rw [hw, h8z]
  clear hw
  go_wp2_with fail
  refine (CM.out _).mono ?_
  rintro e w' ⟨rfl, hw⟩
  rw [hw]
  clear hw
  have hsc := run_storeCells_new (P := Tryd.prog) (w.alloc (.cells (Lib.setCells C.data.toList) 73)) 73 Tryd.zeroCells73 (Lib.setCells C.data.toList) (by rw [hz256]; exact hi) (by rw [hz256]; kernel_rfl) (Lib.setCells_one _)
  rw [show (w.alloc (.cells (Lib.setCells C.data.toList) 73)).heap.size = w.heap.size + 1 from Array.size_push _] at hsc
  have hb2 := below_alloc2 w (.cells (Lib.setCells C.data.toList) 73) (.cells (Lib.setCells C.data.toList) 73)
  have hnew := heap_alloc_new (w.alloc (.cells (Lib.setCells C.data.toList) 73)) (.cells (Lib.setCells C.data.toList) 73)
  rw [show (w.alloc (.cells (Lib.setCells C.data.toList) 73)).heap.size = w.heap.size + 1 from Array.size_push _] at hnew
  go_wp2_with fail
  obtain ⟨W2, hW2⟩ : ∃ W2, (w.alloc (.cells (Lib.setCells C.data.toList) 73)).alloc (.cells (Lib.setCells C.data.toList) 73) = W2 := ⟨_, rfl⟩
  rw [hW2] at hb2 hnew ⊢
  obtain ⟨K, hK⟩ : ∃ K, w.heap.size + 1 = K := ⟨_, rfl⟩
  rw [hK] at hnew ⊢
  have CC := Lib.hid (fun (x : UInt8) => Tryd.asciiSet_contains K x (C.data.toList.contains x) W2 ((cell_of_block hnew x.toNat).trans (HG.out x)))
  have HB := Lib.hid hb2
  clear hW2 hK hnew hb2 hsc hz256 hi hv HG CM CU
  go_loop [8] (fun iv => ∃ i : Nat, i ≤ T.size ∧ iv = .int .i64 (i : Int) ∧ Hid (Lib.NoAny T.data.toList C.data.toList i)) (fun iv => T.size - (RowKit.intOf iv).toNat)
  case atStart => exact ⟨0, by omega, rfl, H0⟩
  case round =>
    clear H0
    obtain ⟨i, hi1, rfl, HN⟩ := hrel
    by_cases hi : i < T.size
    · obtain ⟨x, hx⟩ : ∃ x : UInt8, T[i]'hi = x := ⟨_, rfl⟩
      have hxl : T.data.toList[i]? = some x := by rw [← hx]; exact Lib.data_getElem? T i hi
      obtain ⟨z, hz⟩ : ∃ z : Nat, x.toNat = z := ⟨_, rfl⟩
      have hzi : (((T[i]'hi).toNat : Nat) : Int) = (z : Int) := by rw [hx, hz]
      have hI : (i : Int) < (T.size : Int) := by omega
      have i00 : (0 : Int) ≤ (i : Int) := by omega
      have CX := CC.out x
      rw [hz] at CX
      have Hx := Lib.hid hxl
      clear hxl hx hz
      cases hin : C.data.toList.contains x
      · rw [hin] at CX
        have CX := Lib.hid CX
        have HN2 := Lib.hid (HN.out.succ Hx.out hin)
        clear hin
        go_wp2_with fail
        refine CX.out.mono ?_
        rintro e w' ⟨rfl, hw⟩
        rw [hw]
        clear hw
        go_wp2_with fail
        go_round
        case rel => exact ⟨i + 1, by omega, by go_num, HN2⟩
        case measure => simp [RowKit.intOf]; omega
      · rw [hin] at CX
        have CX := Lib.hid CX
        have HR := Lib.hid (Lib.indexAny_hit HN.out Hx.out hin)
        clear hin
        go_wp2_with fail
        refine CX.out.mono ?_
        rintro e w' ⟨rfl, hw⟩
        rw [hw]
        clear hw
        go_wp2_with fail
        go_ret
        rw [HR.out]
        exact ⟨rfl, HB.out⟩
    · have hii : i = T.size := by omega
      have hI : ¬ (i : Int) < (T.size : Int) := by omega
      have HR := Lib.hid (Lib.indexAny_none (s := T.data.toList) (chars := C.data.toList) (by have : T.data.toList.length = T.size := rfl; rw [this, ← hii]; exact HN.out))
      clear hii
      go_wp2_with fail
      go_ret
      rw [HR.out]
      exact ⟨rfl, HB.out⟩
theorem idxOK_any (S : ByteArray) (hs : S.size ≤ 4611686018427387904) : IdxOK S := fun T hT W => by
  have h1 : T.data.toList.length = T.size := rfl
  have h2 : S.data.toList.length = S.size := rfl
  have := hT.length_le
  by_cases h8 : T.size ≤ 8
  · exact idx_short T W h8
  · exact idx_long T W (by omega) (by omega)
theorem calParse_huge (S : ByteArray) (w : World) (hM : CalMem w) (hS : S.size ≤ 4611686018427387904) : Calls Tryd.prog 8 #[.string S] w fun e w' => e = .returned (.int .i64 (parseZ S.data.toList)) ∧ Below w.heap.size w w' :=
  calParse_any S w hM hS (idxOK_any S hS)
end Go.Proofs.YtelhbkfhalpniaaDoor
