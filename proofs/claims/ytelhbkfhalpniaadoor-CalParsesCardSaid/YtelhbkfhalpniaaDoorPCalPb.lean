/- Contracts of layer 13: strings.IndexAny at the blanks, whatever the text: short texts; Parse at any text. -/
import Derived.Test.YtelhbkfhalpniaaDoorPCalPa
import Derived.Lib.OthersKept
import Derived.Test.YtelhbkfhalpniaaDoorQt1
import Derived.Test.YtelhbkfhalpniaaDoorQt2
import Derived.Test.YtelhbkfhalpniaaDoorQt3
import Derived.Test.YtelhbkfhalpniaaDoorQt4
import Derived.Test.YtelhbkfhalpniaaDoorQt5
namespace Go.Proofs.YtelhbkfhalpniaaDoor
open Go.RowKit Go.Lib Go.Joins

theorem blk_high {b : UInt8} (h : 128 ≤ b.toNat) : blanksB.data.toList.contains b = false := by
  rw [blk_has]
  unfold blkB
  have n1 : (b == 32) = false := by rw [beq_eq_false_iff_ne]; intro e; rw [e] at h; exact absurd h (by decide)
  have n2 : (b == 9) = false := by rw [beq_eq_false_iff_ne]; intro e; rw [e] at h; exact absurd h (by decide)
  have n3 : (b == 10) = false := by rw [beq_eq_false_iff_ne]; intro e; rw [e] at h; exact absurd h (by decide)
  rw [n1, n2, n3]; rfl
/-- A code that is not ASCII: what it is, and where the next one begins. -/
theorem dec_high (T : ByteArray) (i : Nat) (h : i < T.size) (hx : 128 ≤ (T[i]'h).toNat) : 128 ≤ (Utf8.decode T i).1 ∧ ((Utf8.decode T i).1 < 55296 ∨ (57344 ≤ (Utf8.decode T i).1 ∧ (Utf8.decode T i).1 ≤ 1114111)) ∧ 1 ≤ (Utf8.decode T i).2 ∧ i + (Utf8.decode T i).2 ≤ T.size ∧ ∀ (j : Nat) b, i ≤ j → j < i + (Utf8.decode T i).2 → T.data.toList[j]? = some b → 128 ≤ b.toNat := by
  have hd := decode_at T i
  have h0 : (T.get! i).toNat = (T[i]'h).toNat := congrArg UInt8.toNat (get_at T i h)
  have hk := decodeN_high (T.size - i) (T.get! i).toNat (T.get! (i + 1)).toNat (T.get! (i + 2)).toNat (T.get! (i + 3)).toNat (by rw [h0]; exact hx) (by omega)
  rw [← hd] at hk
  obtain ⟨k1, k2, k3, k4, k5, k6, k7, k8⟩ := hk
  refine ⟨k1, k2, k3, by omega, fun j b hj hj2 hb => ?_⟩
  have hjs : j < T.size := by omega
  have hb2 : T.data.toList[j]? = some (T[j]'hjs) := Lib.data_getElem? T j hjs
  rw [hb2] at hb
  injection hb with hb
  have hg : T.get! j = T[j]'hjs := get_at T j hjs
  rw [← hb, ← hg]
  rcases (by omega : j = i ∨ j = i + 1 ∨ j = i + 2 ∨ j = i + 3) with rfl | rfl | rfl | rfl
  · rw [h0]; exact hx
  · exact k6 (by omega)
  · exact k7 (by omega)
  · exact k8 (by omega)
set_option maxRecDepth 100000 in
set_option maxHeartbeats 4000000 in
theorem idx_short (T : ByteArray) (w : World) (h8 : T.size ≤ 8) : Calls Tryd.prog 15 #[.string T, .string blanksB] w fun e w' => e = .returned (.int .i64 (Lib.indexAny T.data.toList blanksB.data.toList)) ∧ Below w.heap.size w w' := by
  have CU := Lib.hid (fun (W : World) => Tryd.strings_shouldUseASCIISet (T.size : Int) W)
  have CA := Lib.hid (fun (x : Nat) (W : World) (h : x < 128) => Tryd.strings_IndexRune_ascii blanksB (x : Int) W (by omega) (by omega))
  have CH := Lib.hid (fun (c : Nat) (W : World) (h : 128 ≤ c) (hv : c < 55296 ∨ (57344 ≤ c ∧ c ≤ 1114111)) => show Calls Tryd.prog 38 #[.string blanksB, .int .i32 (c : Int)] W fun e w' => e = .returned (.int .i64 (-1)) ∧ Below W.heap.size W w' from by
    by_cases hc : c = 65533
    · subst hc; exact indexRune_err W
    · exact indexRune_high c W h hv hc)
  have hbs : (blanksB.size : Int) = 3 := rfl
  have h8z : decide ((8 : Int) < (T.size : Int)) = false := decide_eq_false (by omega)
  have hit := World.iter_heap w T 0
  have hbel := below_iter w T 0
  obtain ⟨C, hC⟩ : ∃ C, blanksB = C := ⟨_, rfl⟩
  have hemp : C.toList.isEmpty = false := by rw [← hC, Lib.toList_data]; rfl
  rw [hC] at CA CH hbs ⊢
  have HC := Lib.hid hC
  have H0 := Lib.hid (Lib.NoAny.zero T.data.toList C.data.toList)
  clear hC
  go_enter Tryd.func15, Tryd.ntmps15
  go_wp2_with fail
  refine (CU.out _).mono ?_
  rintro e w' ⟨rfl, hw⟩
  rw [hw, h8z]
  clear hw
  go_wp2_with fail
  obtain ⟨K, hK⟩ : ∃ K, w.heap.size = K := ⟨_, rfl⟩
  obtain ⟨W1, hW1⟩ : ∃ W1, w.iter T 0 = W1 := ⟨_, rfl⟩
  rw [hK] at hit hbel ⊢
  rw [hW1] at hit hbel ⊢
  have HI := Lib.hid hit
  have HB := Lib.hid hbel
  have HK := Lib.hid hK
  clear hit hbel hK hW1
  go_loopg [9, 10] T.size (fun g _ _ wx => ∃ i : Nat, i ≤ T.size ∧ T.size ≤ i + g ∧ Hid (wx.heap[K]? = some (.stringIter T i)) ∧ Hid (Below K w wx) ∧ Hid (Lib.NoAny T.data.toList C.data.toList i))
  case atStart => exact ⟨0, by omega, by omega, HI, HB, H0⟩
  case round =>
    clear HI HB H0
    obtain ⟨i, hi1, hig, HI, HB, HN⟩ := hrel
    by_cases hi : i < T.size
    · obtain ⟨x, hx⟩ : ∃ x : UInt8, T[i]'hi = x := ⟨_, rfl⟩
      have hxl : T.data.toList[i]? = some x := by rw [← hx]; exact Lib.data_getElem? T i hi
      cases gk with
      | zero => omega
      | succ g =>
        by_cases hx128 : x.toNat < 128
        · have hnx := fun ty => run_next_ascii_at (P := Tryd.prog) wr K T i ty HI.out hi (by rw [hx]; exact hx128)
          rw [hx] at hnx
          have hit2 := Lib.hid (iterAt_heap wr K T i (i + 1) HI.out)
          have hb2 := Lib.hid (below_iterAt HB.out (Nat.le_refl K) T (i + 1))
          obtain ⟨W2, hW2⟩ : ∃ W2, wr.iterAt K T (i + 1) = W2 := ⟨_, rfl⟩
          rw [hW2] at hnx hit2 hb2
          have hcon := Lib.contains_iff_indexByte C.data.toList x
          have hback : ((x.toNat : Int)).toNat.toUInt8 = x := by simp
          have CA1 := fun (W : World) => CA.out x.toNat W hx128
          rw [hback] at CA1
          have CA1 := Lib.hid CA1
          have Hx := Lib.hid hxl
          clear hxl hx hW2 hback
          cases hin : C.data.toList.contains x
          · rw [hin] at hcon
            have hlt : ¬ ((0 : Int) ≤ Lib.indexByte C.data.toList x) := of_decide_eq_false hcon.symm
            clear hcon
            obtain ⟨v, hv⟩ : ∃ v, Lib.indexByte C.data.toList x = v := ⟨_, rfl⟩
            rw [hv] at hlt CA1
            have HN2 := Lib.hid (HN.out.succ Hx.out hin)
            clear hv hin
            go_wp2_with fail
            refine (CA1.out _).mono ?_
            rintro e w' ⟨rfl, rfl⟩
            go_wp2_with fail
            go_roundg g
            case measure => omega
            case rel => exact ⟨i + 1, by omega, by omega, hit2, hb2, HN2⟩
          · rw [hin] at hcon
            have hge : (0 : Int) ≤ Lib.indexByte C.data.toList x := of_decide_eq_true hcon.symm
            clear hcon
            obtain ⟨v, hv⟩ : ∃ v, Lib.indexByte C.data.toList x = v := ⟨_, rfl⟩
            rw [hv] at hge CA1
            have HR := Lib.hid (Lib.indexAny_hit HN.out Hx.out hin)
            clear hv hin
            go_wp2_with fail
            refine (CA1.out _).mono ?_
            rintro e w' ⟨rfl, rfl⟩
            go_wp2_with fail
            go_ret
            rw [HR.out]
            exact ⟨rfl, by rw [HK.out]; exact hb2.out⟩
        · obtain ⟨k1, k2, k3, k4, k5⟩ := dec_high T i hi (by rw [hx]; omega)
          have hnx := fun ty => run_next_any_at (P := Tryd.prog) wr K T i ty HI.out hi
          have hit2 := iterAt_heap wr K T i (i + (Utf8.decode T i).2) HI.out
          have hb2 := below_iterAt HB.out (Nat.le_refl K) T (i + (Utf8.decode T i).2)
          have HN2 : Lib.NoAny T.data.toList C.data.toList (i + (Utf8.decode T i).2) := fun j b hj hb => by
            rcases Nat.lt_or_ge j i with h1 | h1
            · exact HN.out j b h1 hb
            · rw [← HC.out]; exact blk_high (k5 j b h1 hj hb)
          obtain ⟨c, hc⟩ : ∃ c, (Utf8.decode T i).1 = c := ⟨_, rfl⟩
          obtain ⟨n, hn⟩ : ∃ n, (Utf8.decode T i).2 = n := ⟨_, rfl⟩
          rw [hc] at hnx k1 k2
          rw [hn] at hnx hit2 hb2 HN2 k3 k4
          obtain ⟨W2, hW2⟩ : ∃ W2, wr.iterAt K T (i + n) = W2 := ⟨_, rfl⟩
          rw [hW2] at hnx hit2 hb2
          have CH1 := Lib.hid (CH.out c W2 k1 k2)
          have HI2 := Lib.hid hit2
          have HB2 := Lib.hid hb2
          have HN2 := Lib.hid HN2
          clear hc hn k5 hxl hx hx128 hW2 k1 k2 hit2 hb2
          go_wp2_with fail
          refine CH1.out.mono ?_
          rintro e W3 ⟨rfl, h3⟩
          have HI3 := Lib.hid ((h3.block K (Array.getElem?_eq_some_iff.1 HI2.out).1).trans HI2.out)
          have HB3 := Lib.hid (HB2.out.trans (h3.mono (Nat.le_of_lt (Array.getElem?_eq_some_iff.1 HI2.out).1)))
          clear h3
          go_wp2_with fail
          go_roundg g
          case measure => omega
          case rel => exact ⟨i + n, by omega, by omega, HI3, HB3, HN2⟩
    · have hii : i = T.size := by omega
      have hnx := fun ty => run_next_end_at (P := Tryd.prog) wr K T i ty HI.out hi
      have HR := Lib.hid (Lib.indexAny_none (s := T.data.toList) (chars := C.data.toList) (by have : T.data.toList.length = T.size := rfl; rw [this, ← hii]; exact HN.out))
      clear hi hii
      go_wp2_with fail
      go_ret
      rw [HR.out]
      exact ⟨rfl, by rw [HK.out]; exact HB.out⟩
set_option maxRecDepth 100000 in
theorem cal_set_zero (w : World) : (zeroValue (Tryd.lays153_ren.t 116)).run Tryd.prog w = .ok (.agg (Array.replicate 256 (.bool false))) w := by   -- for 15
  kernel_rfl
theorem idxOK_all (S : ByteArray) (hs : S.size < 4294967281) : IdxOK S := fun T hT W => by
  have h1 : T.data.toList.length = T.size := rfl
  have h2 : S.data.toList.length = S.size := rfl
  have := hT.length_le
  by_cases h8 : T.size ≤ 8
  · exact idx_short T W h8
  · refine (Tryd.strings_IndexAny_long (fun w => cal_set_zero w) T blanksB W (by decide) (by omega) (by omega) (by decide) (ascii_of_all (by decide))).mono ?_
    rintro e w' ⟨h, rfl⟩
    exact ⟨h, below_alloc2 W _ _⟩
theorem calParse_all (S : ByteArray) (w : World) (hM : CalMem w) (hS : S.size < 4294967281) : Calls Tryd.prog 8 #[.string S] w fun e w' => e = .returned (.int .i64 (parseZ S.data.toList)) ∧ Below w.heap.size w w' :=
  calParse_any S w hM (by omega) (idxOK_all S hS)
end Go.Proofs.YtelhbkfhalpniaaDoor
