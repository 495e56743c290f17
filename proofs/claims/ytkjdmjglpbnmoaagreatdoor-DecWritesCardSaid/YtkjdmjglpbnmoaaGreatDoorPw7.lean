/- Several texts in one (The definition of layer 3: Cut, walked; The definition of layer 3: Fixed; The definition of layer 3: Sci). -/
import Derived.WalkSpells
import Derived.Deep.QuietTactic
import Derived.BigQuiet
import Derived.Test.YtkjdmjglpbnmoaaGreatDoorPw6
namespace Go.Proofs.YtkjdmjglpbnmoaaGreatDoor
open Go.RowKit Go.Lib

set_option maxRecDepth 100000 in
set_option maxHeartbeats 4000000 in
theorem rcut_a1 (s : ByteArray) (n : Nat) (d L : List UInt8) (w : World) (hs : s.size ≤ 5000) (hn : n ≤ 5000) (hsd : s.data.toList = d) (hd : Dec d) (hL : L = d ++ List.replicate (n - d.length) 48) (hno : L.length ≤ n) :
    Calls Tryz.prog 32 #[.string s, .int .i64 n] w (CutEnd w d n) := by
  have hdl : d.length ≤ 5000 := by rw [← hsd, ba_len]; exact hs
  have hLd : Dec L := by rw [hL]; exact dec_append.2 ⟨hd, dec_noughts _⟩
  have hLl : L.length = d.length + (n - d.length) := by rw [hL, List.length_append, List.length_replicate]
  have hnL : n ≤ L.length := by omega
  have HL := Lib.hid hL
  have HLd := Lib.hid hLd
  have HSD := Lib.hid hsd
  have HNO := Lib.hid (cut_same hLd hnL hL (up_no hLd hno))
  clear hsd hd hL hLd
  go_enter Tryz.func32, Tryz.ntmps32
  go_wp2_with fail
  go_loop [0] (fun sv => ∃ (S : ByteArray) (c : Nat), sv = .string S ∧ S.data.toList = d ++ List.replicate c 48 ∧ (c = 0 ∨ S.size ≤ n)) (fun sv => n - slen sv)
  case atStart => exact ⟨s, 0, rfl, by rw [HSD.out]; simp, Or.inl rfl⟩
  case round =>
    obtain ⟨S, c, rfl, hS, hc⟩ := hrel
    have hSz : S.size = d.length + c := by rw [← ba_len, hS, List.length_append, List.length_replicate]
    have hSb : S.size ≤ 10000 := by omega
    by_cases hlt : S.size < n
    · have HS := Lib.hid hS
      clear hS
      go_wp2_with fail
      go_round
      case rel => exact ⟨_, c + 1, rfl, by rw [ByteArray.data_append, Array.toList_append, HS.out, List.append_assoc, List.replicate_succ'], Or.inr (by rw [ByteArray.size_append]; show S.size + 1 ≤ n; omega)⟩
      case measure =>
        simp only [slen, ByteArray.size_append]
        show n - (S.size + 1) < n - S.size
        omega
    · have hSL : S.data.toList = L := by rw [hS, HL.out, show c = n - d.length by omega]
      have hnS : n ≤ S.size := by omega
      have hSLl : S.size = L.length := by rw [← ba_len, hSL]
      obtain ⟨cap, row, mk, hcap, hcv, hrow, hfz⟩ := cbytes_new w (S.extract 0 n)
      have hxs : (S.extract 0 n).size = n := by rw [ByteArray.size_extract]; omega
      have HR0 := Lib.hid (RowE.new (W := w.drew) (L := L.take n) (by rw [Lib.extract_data, hSL, List.drop_zero, Nat.sub_zero]) hrow hfz)
      rw [hxs] at hcv hcap
      have hb0 := ((Below.refl w.heap.size w).drew).alloc (o := .cells row 5 mk) (Nat.le_refl _)
      obtain ⟨W0, hW0⟩ : ∃ W0, w.drew.alloc (.cells row 5 mk) = W0 := ⟨_, rfl⟩
      have hRd : w.drew.heap.size = w.heap.size := rfl
      rw [hW0] at hcv hb0 HR0
      rw [hRd] at HR0
      obtain ⟨R, hR⟩ : ∃ R, w.heap.size = R := ⟨_, rfl⟩
      rw [hR] at hcv HR0
      have HRR := Lib.hid hR
      have HSL := Lib.hid hSL
      have hbyte : ∀ j (hj : j < S.size), L[j]? = some (S[j]'hj) := fun j hj => by
        rw [← hSL, Array.getElem?_toList, Array.getElem?_eq_getElem hj]
        rfl
      have HBY := Lib.hid hbyte
      have htl : (L.take n).length = n := by rw [List.length_take]; omega
      have HTL := Lib.hid htl
      have hcs0 := HR0.out.str (cap := cap)
      rw [htl] at hcs0
      have HLl := Lib.hid hLl
      have HSLl := Lib.hid hSLl
      clear hS hSL hxs hrow hfz hW0 hRd hR hbyte htl hc hlt hSz hLl hSLl
      have hAn : ¬ (n : Int) < (S.size : Int) := by have := HSLl.out; omega
      clear hno
      go_wp2_with fail
      go_loopw [6, 9] (fun u iv wr => u = .bool false ∧ iv = .int .i64 ((n : Int) - 1) ∧ wr = W0) (fun _ _ _ => 0)
      case atStart => exact ⟨rfl, rfl, rfl⟩
      case round =>
        obtain ⟨rfl, rfl, rfl⟩ := hrel
        go_wp2_with fail
        all_goals
          go_ret
          exact ⟨_, rfl, HNO.out, hb0⟩
set_option maxRecDepth 100000 in
set_option maxHeartbeats 4000000 in
theorem rcut_a2 (s : ByteArray) (n : Nat) (d L : List UInt8) (w : World) (hs : s.size ≤ 5000) (hn : n ≤ 5000) (hsd : s.data.toList = d) (hd : Dec d) (hL : L = d ++ List.replicate (n - d.length) 48) (hlt0 : n < L.length) (hc53 : L[n].toNat < 53) :
    Calls Tryz.prog 32 #[.string s, .int .i64 n] w (CutEnd w d n) := by
  have hdl : d.length ≤ 5000 := by rw [← hsd, ba_len]; exact hs
  have hLd : Dec L := by rw [hL]; exact dec_append.2 ⟨hd, dec_noughts _⟩
  have hLl : L.length = d.length + (n - d.length) := by rw [hL, List.length_append, List.length_replicate]
  have hnL : n ≤ L.length := by omega
  have HL := Lib.hid hL
  have HLd := Lib.hid hLd
  have HSD := Lib.hid hsd
  have HNO := Lib.hid (cut_same hLd hnL hL (fun h => by have := (up_iff hLd hlt0).1 h; omega))
  obtain ⟨c0, hc0⟩ : ∃ c0, L[n] = c0 := ⟨_, rfl⟩
  have HC0 := Lib.hid (show L[n]? = some c0 by rw [List.getElem?_eq_getElem hlt0, hc0])
  rw [hc0] at hc53
  clear hc0
  clear hsd hd hL hLd
  go_enter Tryz.func32, Tryz.ntmps32
  go_wp2_with fail
  go_loop [0] (fun sv => ∃ (S : ByteArray) (c : Nat), sv = .string S ∧ S.data.toList = d ++ List.replicate c 48 ∧ (c = 0 ∨ S.size ≤ n)) (fun sv => n - slen sv)
  case atStart => exact ⟨s, 0, rfl, by rw [HSD.out]; simp, Or.inl rfl⟩
  case round =>
    obtain ⟨S, c, rfl, hS, hc⟩ := hrel
    have hSz : S.size = d.length + c := by rw [← ba_len, hS, List.length_append, List.length_replicate]
    have hSb : S.size ≤ 10000 := by omega
    by_cases hlt : S.size < n
    · exact absurd hlt (by omega)
    · have hSL : S.data.toList = L := by rw [hS, HL.out, show c = n - d.length by omega]
      have hnS : n ≤ S.size := by omega
      have hSLl : S.size = L.length := by rw [← ba_len, hSL]
      obtain ⟨cap, row, mk, hcap, hcv, hrow, hfz⟩ := cbytes_new w (S.extract 0 n)
      have hxs : (S.extract 0 n).size = n := by rw [ByteArray.size_extract]; omega
      have HR0 := Lib.hid (RowE.new (W := w.drew) (L := L.take n) (by rw [Lib.extract_data, hSL, List.drop_zero, Nat.sub_zero]) hrow hfz)
      rw [hxs] at hcv hcap
      have hb0 := ((Below.refl w.heap.size w).drew).alloc (o := .cells row 5 mk) (Nat.le_refl _)
      obtain ⟨W0, hW0⟩ : ∃ W0, w.drew.alloc (.cells row 5 mk) = W0 := ⟨_, rfl⟩
      have hRd : w.drew.heap.size = w.heap.size := rfl
      rw [hW0] at hcv hb0 HR0
      rw [hRd] at HR0
      obtain ⟨R, hR⟩ : ∃ R, w.heap.size = R := ⟨_, rfl⟩
      rw [hR] at hcv HR0
      have HRR := Lib.hid hR
      have HSL := Lib.hid hSL
      have hbyte : ∀ j (hj : j < S.size), L[j]? = some (S[j]'hj) := fun j hj => by
        rw [← hSL, Array.getElem?_toList, Array.getElem?_eq_getElem hj]
        rfl
      have HBY := Lib.hid hbyte
      have htl : (L.take n).length = n := by rw [List.length_take]; omega
      have HTL := Lib.hid htl
      have hcs0 := HR0.out.str (cap := cap)
      rw [htl] at hcs0
      have HLl := Lib.hid hLl
      have HSLl := Lib.hid hSLl
      clear hS hSL hxs hrow hfz hW0 hRd hR hbyte htl hc hlt hSz hLl hSLl
      have hAn : n < S.size := by have := HSLl.out; omega
      have hbc : (S[n]'hAn) = c0 := by have h := HBY.out n hAn; rw [HC0.out] at h; exact (Option.some.inj h).symm
      have hbn : ¬ (53 : Int) ≤ ((S[n]'hAn).toNat : Int) := by rw [hbc]; omega
      clear hbc hc53
      go_wp2_with fail
      go_loopw [6, 9] (fun u iv wr => u = .bool false ∧ iv = .int .i64 ((n : Int) - 1) ∧ wr = W0) (fun _ _ _ => 0)
      case atStart => exact ⟨rfl, rfl, rfl⟩
      case round =>
        obtain ⟨rfl, rfl, rfl⟩ := hrel
        go_wp2_with fail
        all_goals
          go_ret
          exact ⟨_, rfl, HNO.out, hb0⟩
set_option maxRecDepth 100000 in
set_option maxHeartbeats 4000000 in
theorem rcut_bup (s : ByteArray) (n : Nat) (d L : List UInt8) (w : World) (hs : s.size ≤ 5000) (hn : n ≤ 5000) (hsd : s.data.toList = d) (hd : Dec d) (hL : L = d ++ List.replicate (n - d.length) 48) (hlt0 : n < L.length) (hc53 : 53 ≤ L[n].toNat) (hup : UpB L n) :
    Calls Tryz.prog 32 #[.string s, .int .i64 n] w (CutEnd w d n) := by
  have hdl : d.length ≤ 5000 := by rw [← hsd, ba_len]; exact hs
  have hLd : Dec L := by rw [hL]; exact dec_append.2 ⟨hd, dec_noughts _⟩
  have hLl : L.length = d.length + (n - d.length) := by rw [hL, List.length_append, List.length_replicate]
  have hnL : n ≤ L.length := by omega
  have HL := Lib.hid hL
  have HLd := Lib.hid hLd
  have HSD := Lib.hid hsd
  have hiff := up_iff hLd hlt0
  obtain ⟨c0, hc0⟩ : ∃ c0, L[n] = c0 := ⟨_, rfl⟩
  have HC0 := Lib.hid (show L[n]? = some c0 by rw [List.getElem?_eq_getElem hlt0, hc0])
  rw [hc0] at hc53 hiff
  have HUP := Lib.hid hup
  have hppi := pv_pos_iff (dec_drop hLd (n + 1))
  have HIFF := Lib.hid hiff
  have HPPI := Lib.hid hppi
  obtain ⟨z0, hz0⟩ : ∃ z0, c0.toNat = z0 := ⟨_, rfl⟩
  have HZ0 := Lib.hid hz0
  rw [hz0] at hc53
  clear hc0 hiff hup hppi hz0
  clear hsd hd hL hLd
  go_enter Tryz.func32, Tryz.ntmps32
  go_wp2_with fail
  go_loop [0] (fun sv => ∃ (S : ByteArray) (c : Nat), sv = .string S ∧ S.data.toList = d ++ List.replicate c 48 ∧ (c = 0 ∨ S.size ≤ n)) (fun sv => n - slen sv)
  case atStart => exact ⟨s, 0, rfl, by rw [HSD.out]; simp, Or.inl rfl⟩
  case round =>
    obtain ⟨S, c, rfl, hS, hc⟩ := hrel
    have hSz : S.size = d.length + c := by rw [← ba_len, hS, List.length_append, List.length_replicate]
    have hSb : S.size ≤ 10000 := by omega
    by_cases hlt : S.size < n
    · exact absurd hlt (by omega)
    · have hSL : S.data.toList = L := by rw [hS, HL.out, show c = n - d.length by omega]
      have hnS : n ≤ S.size := by omega
      have hSLl : S.size = L.length := by rw [← ba_len, hSL]
      obtain ⟨cap, row, mk, hcap, hcv, hrow, hfz⟩ := cbytes_new w (S.extract 0 n)
      have hxs : (S.extract 0 n).size = n := by rw [ByteArray.size_extract]; omega
      have HR0 := Lib.hid (RowE.new (W := w.drew) (L := L.take n) (by rw [Lib.extract_data, hSL, List.drop_zero, Nat.sub_zero]) hrow hfz)
      rw [hxs] at hcv hcap
      have hb0 := ((Below.refl w.heap.size w).drew).alloc (o := .cells row 5 mk) (Nat.le_refl _)
      obtain ⟨W0, hW0⟩ : ∃ W0, w.drew.alloc (.cells row 5 mk) = W0 := ⟨_, rfl⟩
      have hRd : w.drew.heap.size = w.heap.size := rfl
      rw [hW0] at hcv hb0 HR0
      rw [hRd] at HR0
      obtain ⟨R, hR⟩ : ∃ R, w.heap.size = R := ⟨_, rfl⟩
      rw [hR] at hcv HR0
      have HRR := Lib.hid hR
      have HSL := Lib.hid hSL
      have hbyte : ∀ j (hj : j < S.size), L[j]? = some (S[j]'hj) := fun j hj => by
        rw [← hSL, Array.getElem?_toList, Array.getElem?_eq_getElem hj]
        rfl
      have HBY := Lib.hid hbyte
      have htl : (L.take n).length = n := by rw [List.length_take]; omega
      have HTL := Lib.hid htl
      have hcs0 := HR0.out.str (cap := cap)
      rw [htl] at hcs0
      have HLl := Lib.hid hLl
      have HSLl := Lib.hid hSLl
      clear hS hSL hxs hrow hfz hW0 hRd hR hbyte htl hc hlt hSz hLl hSLl
      have hAn : n < S.size := by have := HSLl.out; omega
      have hbc : (S[n]'hAn) = c0 := by have h := HBY.out n hAn; rw [HC0.out] at h; exact (Option.some.inj h).symm
      have hbz : ((S[n]'hAn).toNat : Int) = (z0 : Int) := by rw [hbc, HZ0.out]
      have hc53i : (53 : Int) ≤ (z0 : Int) := by omega
      clear hbc
      by_cases h0z : 53 < z0
      · have h0i : (53 : Int) < (z0 : Int) := by omega
        go_wp2_with fail
        go_loop [7, 8] (fun rv iv => ∃ (i : Nat) (β : Bool), rv = .bool β ∧ iv = .int .i64 (i : Int) ∧ n + 1 ≤ i ∧ i ≤ S.size ∧ (β = true ↔ 53 < z0 ∨ ∃ j, n < j ∧ j < i ∧ L[j]? ≠ some 48)) (fun _ iv => S.size - (RowKit.intOf iv).toNat)
        case atStart => exact ⟨n + 1, _, rfl, by go_num, by omega, by omega, ⟨fun h => Or.inl h0z, fun _ => rfl⟩⟩
        case round =>
          obtain ⟨i, β, rfl, rfl, hi1, hi2, hβ⟩ := hrel
          have HB := Lib.hid hβ
          clear hβ
          by_cases hi : i < S.size
          · cases β with
            | true =>
              go_wp2_with fail
              go_round
              case rel => exact ⟨i + 1, true, rfl, by go_num, by omega, by omega, ⟨fun _ => by
                rcases HB.out.1 rfl with h | ⟨j, h1, h2, h3⟩
                · exact Or.inl h
                · exact Or.inr ⟨j, h1, by omega, h3⟩, fun _ => rfl⟩⟩
              case measure => simp [RowKit.intOf]; omega
            | false =>
              by_cases h48 : (S[i]'hi).toNat = 48
              · have hb48 : (((S[i]'hi).toNat : Int) != 48) = false := by rw [bne_eq_false_iff_eq]; omega
                have H48 := Lib.hid h48
                clear h48
                go_wp2_with fail
                go_round
                case rel => exact ⟨i + 1, false, rfl, by go_num, by omega, by omega, ⟨fun h => absurd h (by decide), fun h => by
                  rcases h with h | ⟨j, h1, h2, h3⟩
                  · exact HB.out.2 (Or.inl h)
                  · rcases Nat.lt_or_ge j i with h4 | h4
                    · exact HB.out.2 (Or.inr ⟨j, h1, h4, h3⟩)
                    · obtain rfl : j = i := by omega
                      rw [HBY.out j hi] at h3
                      exact absurd (congrArg some (UInt8.toNat_inj.1 H48.out)) h3⟩⟩
                case measure => simp [RowKit.intOf]; omega
              · have hb48 : (((S[i]'hi).toNat : Int) != 48) = true := by rw [bne_iff_ne]; omega
                have H48 := Lib.hid h48
                clear h48
                go_wp2_with fail
                go_round
                case rel => exact ⟨i + 1, true, rfl, by go_num, by omega, by omega, ⟨fun _ => Or.inr ⟨i, by omega, by omega, fun e => H48.out (by rw [HBY.out i hi] at e; rw [Option.some.inj e]; rfl)⟩, fun _ => rfl⟩⟩
                case measure => simp [RowKit.intOf]; omega
          · obtain rfl : i = S.size := by omega
            have hrest : β = true ↔ 53 < z0 ∨ 0 < pv (L.drop (n + 1)) := by
              rw [HB.out, HPPI.out]
              constructor
              · rintro (h | ⟨j, h1, h2, h3⟩)
                · exact Or.inl h
                · obtain ⟨x, hx⟩ : ∃ x, L[j]? = some x := ⟨_, HBY.out j h2⟩
                  refine Or.inr ⟨x, ?_, fun e => h3 (by rw [hx, e])⟩
                  refine List.mem_iff_getElem?.2 ⟨j - (n + 1), ?_⟩
                  rw [List.getElem?_drop, show n + 1 + (j - (n + 1)) = j by omega]
                  exact hx
              · rintro (h | ⟨x, hx, hne⟩)
                · exact Or.inl h
                · obtain ⟨j, hj⟩ := List.mem_iff_getElem?.1 hx
                  rw [List.getElem?_drop] at hj
                  have hjl := (List.getElem?_eq_some_iff.1 hj).1
                  exact Or.inr ⟨n + 1 + j, by omega, by have := HSLl.out; omega, fun e => hne (by rw [hj] at e; exact Option.some.inj e)⟩
            have HRE := Lib.hid hrest
            clear hrest
            cases β with
            | true =>
              clear HRE
              go_wp2_with fail
              go_loopw [6, 9] (fun u iv wr => (∃ (j : Nat) (i : Int), u = .bool true ∧ iv = .int .i64 i ∧ i + (j : Int) + 1 = (n : Int) ∧ -1 ≤ i ∧ RowE wr R ((L.take n).take (n - j) ++ List.replicate j 48) ∧ (L.take n).drop (n - j) = List.replicate j 57 ∧ Below w.heap.size w wr) ∨ (∃ (T : List UInt8) (i : Int), u = .bool false ∧ iv = .int .i64 i ∧ -5 ≤ i ∧ i ≤ 5000 ∧ RowE wr R T ∧ T.length = n ∧ CutOk d n T ∧ Below w.heap.size w wr)) (fun _ iv _ => (RowKit.intOf iv + 9).toNat)
              case atStart => exact Or.inl ⟨0, (n : Int) - 1, rfl, rfl, by omega, by omega, by
                rw [Nat.sub_zero, List.take_of_length_le (by rw [HTL.out]; exact Nat.le_refl _), List.replicate_zero, List.append_nil]
                exact HR0.out, by rw [Nat.sub_zero, List.drop_of_length_le (by rw [HTL.out]; exact Nat.le_refl _)]; rfl, hb0⟩
              case round =>
                clear hcv hcs0
                rcases hrel with ⟨j, i, rfl, rfl, hij, hi1, hrow, hdrop, hb⟩ | ⟨T, i, rfl, rfl, hi1, hi2, hrow, hT, hok, hb⟩
                · by_cases hi : 0 ≤ i
                  · obtain ⟨k, rfl⟩ : ∃ k : Nat, i = (k : Int) := ⟨i.toNat, by omega⟩
                    have hkn : k + 1 = n - j := by omega
                    have hkl : k < (L.take n).length := by rw [HTL.out]; omega
                    obtain ⟨c, hc⟩ : ∃ c, (L.take n)[k] = c := ⟨_, rfl⟩
                    rw [← hkn, List.take_succ_eq_append_getElem hkl, hc, List.append_assoc, List.singleton_append] at hrow
                    have hdk : (L.take n).drop k = c :: List.replicate j 57 := by
                      rw [List.drop_eq_getElem_cons hkl, hc, hkn, hdrop]
                    have hdd : L.take n = (L.take n).take k ++ c :: List.replicate j 57 := by rw [← hdk, List.take_append_drop]
                    have hlt : ((L.take n).take k).length = k := by rw [List.length_take]; omega
                    have hcd := dec_take HLd.out n c (by rw [← hc]; exact List.getElem_mem _)
                    obtain ⟨hcell, hfro⟩ := hrow k (by rw [List.length_append, hlt, List.length_cons]; omega)
                    have hget : ((L.take n).take k ++ c :: List.replicate j 48)[k]'(by rw [List.length_append, hlt, List.length_cons]; omega) = c := by
                      rw [List.getElem_append_right (by omega)]
                      simp [hlt]
                    rw [hget] at hcell
                    obtain ⟨z, hz⟩ : ∃ z, c.toNat = z := ⟨_, rfl⟩
                    rw [hz] at hcell hcd
                    have HROW := Lib.hid hrow
                    have HDD := Lib.hid hdd
                    have HDK := Lib.hid hdk
                    have HLT := Lib.hid hlt
                    have HZ := Lib.hid hz
                    have hkn2 : k < n := by omega
                    have hkc : k < cap := by omega
                    clear hrow hdrop hdk hdd hlt hget hc hz hkn hkl
                    by_cases hz57 : z < 57
                    · obtain ⟨x, hx⟩ : ∃ x : UInt8, x.toNat = z + 1 := ⟨UInt8.ofNat (z + 1), by simp; omega⟩
                      have hput := HROW.out.put (x := x) HLT.out
                      rw [show ((x.toNat : Nat) : Int) = (z : Int) + 1 by omega] at hput
                      have HP := Lib.hid hput
                      have HX := Lib.hid hx
                      clear hput hx
                      go_wp2_with fail
                      go_roundw
                      case rel => exact Or.inr ⟨(L.take n).take k ++ x :: List.replicate j 48, (k : Int) - 1, rfl, rfl, by omega, by omega, HP.out, by
                        rw [List.length_append, HLT.out, List.length_cons, List.length_replicate]; omega, cut_up HLd.out hnL HL.out HUP.out HDD.out (by rw [HZ.out]; exact hz57) (by rw [HX.out, HZ.out]), hb.setCell (by have := HRR.out; show _ ≤ R; omega) _⟩
                      case measure => simp [RowKit.intOf]; omega
                    · obtain rfl : z = 57 := by omega
                      have hput := HROW.out.put (x := 48) HLT.out
                      have HP := Lib.hid hput
                      clear hput
                      go_wp2_with fail
                      go_roundw
                      case rel => exact Or.inl ⟨j + 1, (k : Int) - 1, rfl, rfl, by omega, by omega, by
                        rw [show n - (j + 1) = k by omega]
                        exact HP.out, by
                        rw [show n - (j + 1) = k by omega, HDK.out]
                        rw [show c = 57 from UInt8.toNat_inj.1 HZ.out]
                        rfl, hb.setCell (by have := HRR.out; show _ ≤ R; omega) _⟩
                      case measure => simp [RowKit.intOf]; omega
                  · obtain rfl : i = -1 := by omega
                    have hjn : j = n := by omega
                    subst hjn
                    rw [Nat.sub_self, List.take_zero, List.nil_append] at hrow
                    rw [Nat.sub_self, List.drop_zero] at hdrop
                    have hcs := hrow.str (cap := cap)
                    rw [List.length_replicate] at hcs
                    have HOV := Lib.hid (cut_over HLd.out hnL HL.out HUP.out hdrop)
                    clear hrow hdrop
                    go_wp2_with fail
                    go_ret
                    refine ⟨_, ?_, HOV.out, hb⟩
                    congr 2
                · have hcs := hrow.str (cap := cap)
                  rw [hT] at hcs
                  have HOK := Lib.hid hok
                  clear hrow hT hok
                  go_wp2_with fail
                  all_goals
                    go_ret
                    exact ⟨_, rfl, HOK.out, hb⟩
            | false =>
              have hodd : pv (L.take n) % 2 = 1 := by
                have h := HIFF.out.1 HUP.out
                have h2 : ¬ (53 < z0 ∨ 0 < pv (L.drop (n + 1))) := fun h => absurd (HRE.out.2 h) (by decide)
                rw [HZ0.out] at h
                omega
              have hn0 : 0 < n := by
                rcases Nat.eq_zero_or_pos n with h0 | h0
                · exfalso
                  rw [h0] at hodd
                  exact absurd hodd (by simp [pv_nil])
                · exact h0
              obtain ⟨hcell, hfro⟩ := HR0.out (n - 1) (by rw [HTL.out]; omega)
              obtain ⟨p0, hp0⟩ : ∃ p0, (L.take n)[n - 1]'(by rw [HTL.out]; omega) = p0 := ⟨_, rfl⟩
              rw [hp0] at hcell
              have hpl : L[n - 1]? = some p0 := by
                have h := List.getElem?_eq_getElem (l := L.take n) (i := n - 1) (by rw [HTL.out]; omega)
                rw [hp0, List.getElem?_take_of_lt (by omega)] at h
                exact h
              have hpo := odd_pos HLd.out hn0 hpl
              rw [hodd] at hpo
              obtain ⟨y0, hy0⟩ : ∃ y0, p0.toNat = y0 := ⟨_, rfl⟩
              rw [hy0] at hcell hpo
              have hpar : ((y0 : Int) % 2 == 1) = true := by rw [beq_iff_eq]; omega
              have hn1 : ((n : Int) - 1).toNat = n - 1 := by omega
              have hnc : n - 1 < cap := by omega
              clear hp0 hpl hpo hy0 hodd
              clear HRE
              go_wp2_with fail
              go_loopw [6, 9] (fun u iv wr => (∃ (j : Nat) (i : Int), u = .bool true ∧ iv = .int .i64 i ∧ i + (j : Int) + 1 = (n : Int) ∧ -1 ≤ i ∧ RowE wr R ((L.take n).take (n - j) ++ List.replicate j 48) ∧ (L.take n).drop (n - j) = List.replicate j 57 ∧ Below w.heap.size w wr) ∨ (∃ (T : List UInt8) (i : Int), u = .bool false ∧ iv = .int .i64 i ∧ -5 ≤ i ∧ i ≤ 5000 ∧ RowE wr R T ∧ T.length = n ∧ CutOk d n T ∧ Below w.heap.size w wr)) (fun _ iv _ => (RowKit.intOf iv + 9).toNat)
              case atStart => exact Or.inl ⟨0, (n : Int) - 1, rfl, rfl, by omega, by omega, by
                rw [Nat.sub_zero, List.take_of_length_le (by rw [HTL.out]; exact Nat.le_refl _), List.replicate_zero, List.append_nil]
                exact HR0.out, by rw [Nat.sub_zero, List.drop_of_length_le (by rw [HTL.out]; exact Nat.le_refl _)]; rfl, hb0⟩
              case round =>
                clear hcv hcs0
                rcases hrel with ⟨j, i, rfl, rfl, hij, hi1, hrow, hdrop, hb⟩ | ⟨T, i, rfl, rfl, hi1, hi2, hrow, hT, hok, hb⟩
                · by_cases hi : 0 ≤ i
                  · obtain ⟨k, rfl⟩ : ∃ k : Nat, i = (k : Int) := ⟨i.toNat, by omega⟩
                    have hkn : k + 1 = n - j := by omega
                    have hkl : k < (L.take n).length := by rw [HTL.out]; omega
                    obtain ⟨c, hc⟩ : ∃ c, (L.take n)[k] = c := ⟨_, rfl⟩
                    rw [← hkn, List.take_succ_eq_append_getElem hkl, hc, List.append_assoc, List.singleton_append] at hrow
                    have hdk : (L.take n).drop k = c :: List.replicate j 57 := by
                      rw [List.drop_eq_getElem_cons hkl, hc, hkn, hdrop]
                    have hdd : L.take n = (L.take n).take k ++ c :: List.replicate j 57 := by rw [← hdk, List.take_append_drop]
                    have hlt : ((L.take n).take k).length = k := by rw [List.length_take]; omega
                    have hcd := dec_take HLd.out n c (by rw [← hc]; exact List.getElem_mem _)
                    obtain ⟨hcell, hfro⟩ := hrow k (by rw [List.length_append, hlt, List.length_cons]; omega)
                    have hget : ((L.take n).take k ++ c :: List.replicate j 48)[k]'(by rw [List.length_append, hlt, List.length_cons]; omega) = c := by
                      rw [List.getElem_append_right (by omega)]
                      simp [hlt]
                    rw [hget] at hcell
                    obtain ⟨z, hz⟩ : ∃ z, c.toNat = z := ⟨_, rfl⟩
                    rw [hz] at hcell hcd
                    have HROW := Lib.hid hrow
                    have HDD := Lib.hid hdd
                    have HDK := Lib.hid hdk
                    have HLT := Lib.hid hlt
                    have HZ := Lib.hid hz
                    have hkn2 : k < n := by omega
                    have hkc : k < cap := by omega
                    clear hrow hdrop hdk hdd hlt hget hc hz hkn hkl
                    by_cases hz57 : z < 57
                    · obtain ⟨x, hx⟩ : ∃ x : UInt8, x.toNat = z + 1 := ⟨UInt8.ofNat (z + 1), by simp; omega⟩
                      have hput := HROW.out.put (x := x) HLT.out
                      rw [show ((x.toNat : Nat) : Int) = (z : Int) + 1 by omega] at hput
                      have HP := Lib.hid hput
                      have HX := Lib.hid hx
                      clear hput hx
                      go_wp2_with fail
                      go_roundw
                      case rel => exact Or.inr ⟨(L.take n).take k ++ x :: List.replicate j 48, (k : Int) - 1, rfl, rfl, by omega, by omega, HP.out, by
                        rw [List.length_append, HLT.out, List.length_cons, List.length_replicate]; omega, cut_up HLd.out hnL HL.out HUP.out HDD.out (by rw [HZ.out]; exact hz57) (by rw [HX.out, HZ.out]), hb.setCell (by have := HRR.out; show _ ≤ R; omega) _⟩
                      case measure => simp [RowKit.intOf]; omega
                    · obtain rfl : z = 57 := by omega
                      have hput := HROW.out.put (x := 48) HLT.out
                      have HP := Lib.hid hput
                      clear hput
                      go_wp2_with fail
                      go_roundw
                      case rel => exact Or.inl ⟨j + 1, (k : Int) - 1, rfl, rfl, by omega, by omega, by
                        rw [show n - (j + 1) = k by omega]
                        exact HP.out, by
                        rw [show n - (j + 1) = k by omega, HDK.out]
                        rw [show c = 57 from UInt8.toNat_inj.1 HZ.out]
                        rfl, hb.setCell (by have := HRR.out; show _ ≤ R; omega) _⟩
                      case measure => simp [RowKit.intOf]; omega
                  · obtain rfl : i = -1 := by omega
                    have hjn : j = n := by omega
                    subst hjn
                    rw [Nat.sub_self, List.take_zero, List.nil_append] at hrow
                    rw [Nat.sub_self, List.drop_zero] at hdrop
                    have hcs := hrow.str (cap := cap)
                    rw [List.length_replicate] at hcs
                    have HOV := Lib.hid (cut_over HLd.out hnL HL.out HUP.out hdrop)
                    clear hrow hdrop
                    go_wp2_with fail
                    go_ret
                    refine ⟨_, ?_, HOV.out, hb⟩
                    congr 2
                · have hcs := hrow.str (cap := cap)
                  rw [hT] at hcs
                  have HOK := Lib.hid hok
                  clear hrow hT hok
                  go_wp2_with fail
                  all_goals
                    go_ret
                    exact ⟨_, rfl, HOK.out, hb⟩
      · have h0i : ¬ (53 : Int) < (z0 : Int) := by omega
        go_wp2_with fail
        go_loop [7, 8] (fun rv iv => ∃ (i : Nat) (β : Bool), rv = .bool β ∧ iv = .int .i64 (i : Int) ∧ n + 1 ≤ i ∧ i ≤ S.size ∧ (β = true ↔ 53 < z0 ∨ ∃ j, n < j ∧ j < i ∧ L[j]? ≠ some 48)) (fun _ iv => S.size - (RowKit.intOf iv).toNat)
        case atStart => exact ⟨n + 1, _, rfl, by go_num, by omega, by omega, ⟨fun h => absurd h (by decide), fun h => by rcases h with h | ⟨j, h1, h2, _⟩ <;> omega⟩⟩
        case round =>
          obtain ⟨i, β, rfl, rfl, hi1, hi2, hβ⟩ := hrel
          have HB := Lib.hid hβ
          clear hβ
          by_cases hi : i < S.size
          · cases β with
            | true =>
              go_wp2_with fail
              go_round
              case rel => exact ⟨i + 1, true, rfl, by go_num, by omega, by omega, ⟨fun _ => by
                rcases HB.out.1 rfl with h | ⟨j, h1, h2, h3⟩
                · exact Or.inl h
                · exact Or.inr ⟨j, h1, by omega, h3⟩, fun _ => rfl⟩⟩
              case measure => simp [RowKit.intOf]; omega
            | false =>
              by_cases h48 : (S[i]'hi).toNat = 48
              · have hb48 : (((S[i]'hi).toNat : Int) != 48) = false := by rw [bne_eq_false_iff_eq]; omega
                have H48 := Lib.hid h48
                clear h48
                go_wp2_with fail
                go_round
                case rel => exact ⟨i + 1, false, rfl, by go_num, by omega, by omega, ⟨fun h => absurd h (by decide), fun h => by
                  rcases h with h | ⟨j, h1, h2, h3⟩
                  · exact HB.out.2 (Or.inl h)
                  · rcases Nat.lt_or_ge j i with h4 | h4
                    · exact HB.out.2 (Or.inr ⟨j, h1, h4, h3⟩)
                    · obtain rfl : j = i := by omega
                      rw [HBY.out j hi] at h3
                      exact absurd (congrArg some (UInt8.toNat_inj.1 H48.out)) h3⟩⟩
                case measure => simp [RowKit.intOf]; omega
              · have hb48 : (((S[i]'hi).toNat : Int) != 48) = true := by rw [bne_iff_ne]; omega
                have H48 := Lib.hid h48
                clear h48
                go_wp2_with fail
                go_round
                case rel => exact ⟨i + 1, true, rfl, by go_num, by omega, by omega, ⟨fun _ => Or.inr ⟨i, by omega, by omega, fun e => H48.out (by rw [HBY.out i hi] at e; rw [Option.some.inj e]; rfl)⟩, fun _ => rfl⟩⟩
                case measure => simp [RowKit.intOf]; omega
          · obtain rfl : i = S.size := by omega
            have hrest : β = true ↔ 53 < z0 ∨ 0 < pv (L.drop (n + 1)) := by
              rw [HB.out, HPPI.out]
              constructor
              · rintro (h | ⟨j, h1, h2, h3⟩)
                · exact Or.inl h
                · obtain ⟨x, hx⟩ : ∃ x, L[j]? = some x := ⟨_, HBY.out j h2⟩
                  refine Or.inr ⟨x, ?_, fun e => h3 (by rw [hx, e])⟩
                  refine List.mem_iff_getElem?.2 ⟨j - (n + 1), ?_⟩
                  rw [List.getElem?_drop, show n + 1 + (j - (n + 1)) = j by omega]
                  exact hx
              · rintro (h | ⟨x, hx, hne⟩)
                · exact Or.inl h
                · obtain ⟨j, hj⟩ := List.mem_iff_getElem?.1 hx
                  rw [List.getElem?_drop] at hj
                  have hjl := (List.getElem?_eq_some_iff.1 hj).1
                  exact Or.inr ⟨n + 1 + j, by omega, by have := HSLl.out; omega, fun e => hne (by rw [hj] at e; exact Option.some.inj e)⟩
            have HRE := Lib.hid hrest
            clear hrest
            cases β with
            | true =>
              clear HRE
              go_wp2_with fail
              go_loopw [6, 9] (fun u iv wr => (∃ (j : Nat) (i : Int), u = .bool true ∧ iv = .int .i64 i ∧ i + (j : Int) + 1 = (n : Int) ∧ -1 ≤ i ∧ RowE wr R ((L.take n).take (n - j) ++ List.replicate j 48) ∧ (L.take n).drop (n - j) = List.replicate j 57 ∧ Below w.heap.size w wr) ∨ (∃ (T : List UInt8) (i : Int), u = .bool false ∧ iv = .int .i64 i ∧ -5 ≤ i ∧ i ≤ 5000 ∧ RowE wr R T ∧ T.length = n ∧ CutOk d n T ∧ Below w.heap.size w wr)) (fun _ iv _ => (RowKit.intOf iv + 9).toNat)
              case atStart => exact Or.inl ⟨0, (n : Int) - 1, rfl, rfl, by omega, by omega, by
                rw [Nat.sub_zero, List.take_of_length_le (by rw [HTL.out]; exact Nat.le_refl _), List.replicate_zero, List.append_nil]
                exact HR0.out, by rw [Nat.sub_zero, List.drop_of_length_le (by rw [HTL.out]; exact Nat.le_refl _)]; rfl, hb0⟩
              case round =>
                clear hcv hcs0
                rcases hrel with ⟨j, i, rfl, rfl, hij, hi1, hrow, hdrop, hb⟩ | ⟨T, i, rfl, rfl, hi1, hi2, hrow, hT, hok, hb⟩
                · by_cases hi : 0 ≤ i
                  · obtain ⟨k, rfl⟩ : ∃ k : Nat, i = (k : Int) := ⟨i.toNat, by omega⟩
                    have hkn : k + 1 = n - j := by omega
                    have hkl : k < (L.take n).length := by rw [HTL.out]; omega
                    obtain ⟨c, hc⟩ : ∃ c, (L.take n)[k] = c := ⟨_, rfl⟩
                    rw [← hkn, List.take_succ_eq_append_getElem hkl, hc, List.append_assoc, List.singleton_append] at hrow
                    have hdk : (L.take n).drop k = c :: List.replicate j 57 := by
                      rw [List.drop_eq_getElem_cons hkl, hc, hkn, hdrop]
                    have hdd : L.take n = (L.take n).take k ++ c :: List.replicate j 57 := by rw [← hdk, List.take_append_drop]
                    have hlt : ((L.take n).take k).length = k := by rw [List.length_take]; omega
                    have hcd := dec_take HLd.out n c (by rw [← hc]; exact List.getElem_mem _)
                    obtain ⟨hcell, hfro⟩ := hrow k (by rw [List.length_append, hlt, List.length_cons]; omega)
                    have hget : ((L.take n).take k ++ c :: List.replicate j 48)[k]'(by rw [List.length_append, hlt, List.length_cons]; omega) = c := by
                      rw [List.getElem_append_right (by omega)]
                      simp [hlt]
                    rw [hget] at hcell
                    obtain ⟨z, hz⟩ : ∃ z, c.toNat = z := ⟨_, rfl⟩
                    rw [hz] at hcell hcd
                    have HROW := Lib.hid hrow
                    have HDD := Lib.hid hdd
                    have HDK := Lib.hid hdk
                    have HLT := Lib.hid hlt
                    have HZ := Lib.hid hz
                    have hkn2 : k < n := by omega
                    have hkc : k < cap := by omega
                    clear hrow hdrop hdk hdd hlt hget hc hz hkn hkl
                    by_cases hz57 : z < 57
                    · obtain ⟨x, hx⟩ : ∃ x : UInt8, x.toNat = z + 1 := ⟨UInt8.ofNat (z + 1), by simp; omega⟩
                      have hput := HROW.out.put (x := x) HLT.out
                      rw [show ((x.toNat : Nat) : Int) = (z : Int) + 1 by omega] at hput
                      have HP := Lib.hid hput
                      have HX := Lib.hid hx
                      clear hput hx
                      go_wp2_with fail
                      go_roundw
                      case rel => exact Or.inr ⟨(L.take n).take k ++ x :: List.replicate j 48, (k : Int) - 1, rfl, rfl, by omega, by omega, HP.out, by
                        rw [List.length_append, HLT.out, List.length_cons, List.length_replicate]; omega, cut_up HLd.out hnL HL.out HUP.out HDD.out (by rw [HZ.out]; exact hz57) (by rw [HX.out, HZ.out]), hb.setCell (by have := HRR.out; show _ ≤ R; omega) _⟩
                      case measure => simp [RowKit.intOf]; omega
                    · obtain rfl : z = 57 := by omega
                      have hput := HROW.out.put (x := 48) HLT.out
                      have HP := Lib.hid hput
                      clear hput
                      go_wp2_with fail
                      go_roundw
                      case rel => exact Or.inl ⟨j + 1, (k : Int) - 1, rfl, rfl, by omega, by omega, by
                        rw [show n - (j + 1) = k by omega]
                        exact HP.out, by
                        rw [show n - (j + 1) = k by omega, HDK.out]
                        rw [show c = 57 from UInt8.toNat_inj.1 HZ.out]
                        rfl, hb.setCell (by have := HRR.out; show _ ≤ R; omega) _⟩
                      case measure => simp [RowKit.intOf]; omega
                  · obtain rfl : i = -1 := by omega
                    have hjn : j = n := by omega
                    subst hjn
                    rw [Nat.sub_self, List.take_zero, List.nil_append] at hrow
                    rw [Nat.sub_self, List.drop_zero] at hdrop
                    have hcs := hrow.str (cap := cap)
                    rw [List.length_replicate] at hcs
                    have HOV := Lib.hid (cut_over HLd.out hnL HL.out HUP.out hdrop)
                    clear hrow hdrop
                    go_wp2_with fail
                    go_ret
                    refine ⟨_, ?_, HOV.out, hb⟩
                    congr 2
                · have hcs := hrow.str (cap := cap)
                  rw [hT] at hcs
                  have HOK := Lib.hid hok
                  clear hrow hT hok
                  go_wp2_with fail
                  all_goals
                    go_ret
                    exact ⟨_, rfl, HOK.out, hb⟩
            | false =>
              have hodd : pv (L.take n) % 2 = 1 := by
                have h := HIFF.out.1 HUP.out
                have h2 : ¬ (53 < z0 ∨ 0 < pv (L.drop (n + 1))) := fun h => absurd (HRE.out.2 h) (by decide)
                rw [HZ0.out] at h
                omega
              have hn0 : 0 < n := by
                rcases Nat.eq_zero_or_pos n with h0 | h0
                · exfalso
                  rw [h0] at hodd
                  exact absurd hodd (by simp [pv_nil])
                · exact h0
              obtain ⟨hcell, hfro⟩ := HR0.out (n - 1) (by rw [HTL.out]; omega)
              obtain ⟨p0, hp0⟩ : ∃ p0, (L.take n)[n - 1]'(by rw [HTL.out]; omega) = p0 := ⟨_, rfl⟩
              rw [hp0] at hcell
              have hpl : L[n - 1]? = some p0 := by
                have h := List.getElem?_eq_getElem (l := L.take n) (i := n - 1) (by rw [HTL.out]; omega)
                rw [hp0, List.getElem?_take_of_lt (by omega)] at h
                exact h
              have hpo := odd_pos HLd.out hn0 hpl
              rw [hodd] at hpo
              obtain ⟨y0, hy0⟩ : ∃ y0, p0.toNat = y0 := ⟨_, rfl⟩
              rw [hy0] at hcell hpo
              have hpar : ((y0 : Int) % 2 == 1) = true := by rw [beq_iff_eq]; omega
              have hn1 : ((n : Int) - 1).toNat = n - 1 := by omega
              have hnc : n - 1 < cap := by omega
              clear hp0 hpl hpo hy0 hodd
              clear HRE
              go_wp2_with fail
              go_loopw [6, 9] (fun u iv wr => (∃ (j : Nat) (i : Int), u = .bool true ∧ iv = .int .i64 i ∧ i + (j : Int) + 1 = (n : Int) ∧ -1 ≤ i ∧ RowE wr R ((L.take n).take (n - j) ++ List.replicate j 48) ∧ (L.take n).drop (n - j) = List.replicate j 57 ∧ Below w.heap.size w wr) ∨ (∃ (T : List UInt8) (i : Int), u = .bool false ∧ iv = .int .i64 i ∧ -5 ≤ i ∧ i ≤ 5000 ∧ RowE wr R T ∧ T.length = n ∧ CutOk d n T ∧ Below w.heap.size w wr)) (fun _ iv _ => (RowKit.intOf iv + 9).toNat)
              case atStart => exact Or.inl ⟨0, (n : Int) - 1, rfl, rfl, by omega, by omega, by
                rw [Nat.sub_zero, List.take_of_length_le (by rw [HTL.out]; exact Nat.le_refl _), List.replicate_zero, List.append_nil]
                exact HR0.out, by rw [Nat.sub_zero, List.drop_of_length_le (by rw [HTL.out]; exact Nat.le_refl _)]; rfl, hb0⟩
              case round =>
                clear hcv hcs0
                rcases hrel with ⟨j, i, rfl, rfl, hij, hi1, hrow, hdrop, hb⟩ | ⟨T, i, rfl, rfl, hi1, hi2, hrow, hT, hok, hb⟩
                · by_cases hi : 0 ≤ i
                  · obtain ⟨k, rfl⟩ : ∃ k : Nat, i = (k : Int) := ⟨i.toNat, by omega⟩
                    have hkn : k + 1 = n - j := by omega
                    have hkl : k < (L.take n).length := by rw [HTL.out]; omega
                    obtain ⟨c, hc⟩ : ∃ c, (L.take n)[k] = c := ⟨_, rfl⟩
                    rw [← hkn, List.take_succ_eq_append_getElem hkl, hc, List.append_assoc, List.singleton_append] at hrow
                    have hdk : (L.take n).drop k = c :: List.replicate j 57 := by
                      rw [List.drop_eq_getElem_cons hkl, hc, hkn, hdrop]
                    have hdd : L.take n = (L.take n).take k ++ c :: List.replicate j 57 := by rw [← hdk, List.take_append_drop]
                    have hlt : ((L.take n).take k).length = k := by rw [List.length_take]; omega
                    have hcd := dec_take HLd.out n c (by rw [← hc]; exact List.getElem_mem _)
                    obtain ⟨hcell, hfro⟩ := hrow k (by rw [List.length_append, hlt, List.length_cons]; omega)
                    have hget : ((L.take n).take k ++ c :: List.replicate j 48)[k]'(by rw [List.length_append, hlt, List.length_cons]; omega) = c := by
                      rw [List.getElem_append_right (by omega)]
                      simp [hlt]
                    rw [hget] at hcell
                    obtain ⟨z, hz⟩ : ∃ z, c.toNat = z := ⟨_, rfl⟩
                    rw [hz] at hcell hcd
                    have HROW := Lib.hid hrow
                    have HDD := Lib.hid hdd
                    have HDK := Lib.hid hdk
                    have HLT := Lib.hid hlt
                    have HZ := Lib.hid hz
                    have hkn2 : k < n := by omega
                    have hkc : k < cap := by omega
                    clear hrow hdrop hdk hdd hlt hget hc hz hkn hkl
                    by_cases hz57 : z < 57
                    · obtain ⟨x, hx⟩ : ∃ x : UInt8, x.toNat = z + 1 := ⟨UInt8.ofNat (z + 1), by simp; omega⟩
                      have hput := HROW.out.put (x := x) HLT.out
                      rw [show ((x.toNat : Nat) : Int) = (z : Int) + 1 by omega] at hput
                      have HP := Lib.hid hput
                      have HX := Lib.hid hx
                      clear hput hx
                      go_wp2_with fail
                      go_roundw
                      case rel => exact Or.inr ⟨(L.take n).take k ++ x :: List.replicate j 48, (k : Int) - 1, rfl, rfl, by omega, by omega, HP.out, by
                        rw [List.length_append, HLT.out, List.length_cons, List.length_replicate]; omega, cut_up HLd.out hnL HL.out HUP.out HDD.out (by rw [HZ.out]; exact hz57) (by rw [HX.out, HZ.out]), hb.setCell (by have := HRR.out; show _ ≤ R; omega) _⟩
                      case measure => simp [RowKit.intOf]; omega
                    · obtain rfl : z = 57 := by omega
                      have hput := HROW.out.put (x := 48) HLT.out
                      have HP := Lib.hid hput
                      clear hput
                      go_wp2_with fail
                      go_roundw
                      case rel => exact Or.inl ⟨j + 1, (k : Int) - 1, rfl, rfl, by omega, by omega, by
                        rw [show n - (j + 1) = k by omega]
                        exact HP.out, by
                        rw [show n - (j + 1) = k by omega, HDK.out]
                        rw [show c = 57 from UInt8.toNat_inj.1 HZ.out]
                        rfl, hb.setCell (by have := HRR.out; show _ ≤ R; omega) _⟩
                      case measure => simp [RowKit.intOf]; omega
                  · obtain rfl : i = -1 := by omega
                    have hjn : j = n := by omega
                    subst hjn
                    rw [Nat.sub_self, List.take_zero, List.nil_append] at hrow
                    rw [Nat.sub_self, List.drop_zero] at hdrop
                    have hcs := hrow.str (cap := cap)
                    rw [List.length_replicate] at hcs
                    have HOV := Lib.hid (cut_over HLd.out hnL HL.out HUP.out hdrop)
                    clear hrow hdrop
                    go_wp2_with fail
                    go_ret
                    refine ⟨_, ?_, HOV.out, hb⟩
                    congr 2
                · have hcs := hrow.str (cap := cap)
                  rw [hT] at hcs
                  have HOK := Lib.hid hok
                  clear hrow hT hok
                  go_wp2_with fail
                  all_goals
                    go_ret
                    exact ⟨_, rfl, HOK.out, hb⟩
set_option maxRecDepth 100000 in
set_option maxHeartbeats 4000000 in
theorem rcut_bno (s : ByteArray) (n : Nat) (d L : List UInt8) (w : World) (hs : s.size ≤ 5000) (hn : n ≤ 5000) (hsd : s.data.toList = d) (hd : Dec d) (hL : L = d ++ List.replicate (n - d.length) 48) (hlt0 : n < L.length) (hc53 : 53 ≤ L[n].toNat) (hup : ¬ UpB L n) :
    Calls Tryz.prog 32 #[.string s, .int .i64 n] w (CutEnd w d n) := by
  have hdl : d.length ≤ 5000 := by rw [← hsd, ba_len]; exact hs
  have hLd : Dec L := by rw [hL]; exact dec_append.2 ⟨hd, dec_noughts _⟩
  have hLl : L.length = d.length + (n - d.length) := by rw [hL, List.length_append, List.length_replicate]
  have hnL : n ≤ L.length := by omega
  have HL := Lib.hid hL
  have HLd := Lib.hid hLd
  have HSD := Lib.hid hsd
  have hiff := up_iff hLd hlt0
  have HNO := Lib.hid (cut_same hLd hnL hL hup)
  obtain ⟨c0, hc0⟩ : ∃ c0, L[n] = c0 := ⟨_, rfl⟩
  have HC0 := Lib.hid (show L[n]? = some c0 by rw [List.getElem?_eq_getElem hlt0, hc0])
  rw [hc0] at hc53 hiff
  have HUP := Lib.hid hup
  have hppi := pv_pos_iff (dec_drop hLd (n + 1))
  have HIFF := Lib.hid hiff
  have HPPI := Lib.hid hppi
  obtain ⟨z0, hz0⟩ : ∃ z0, c0.toNat = z0 := ⟨_, rfl⟩
  have HZ0 := Lib.hid hz0
  rw [hz0] at hc53
  clear hc0 hiff hup hppi hz0
  clear hsd hd hL hLd
  go_enter Tryz.func32, Tryz.ntmps32
  go_wp2_with fail
  go_loop [0] (fun sv => ∃ (S : ByteArray) (c : Nat), sv = .string S ∧ S.data.toList = d ++ List.replicate c 48 ∧ (c = 0 ∨ S.size ≤ n)) (fun sv => n - slen sv)
  case atStart => exact ⟨s, 0, rfl, by rw [HSD.out]; simp, Or.inl rfl⟩
  case round =>
    obtain ⟨S, c, rfl, hS, hc⟩ := hrel
    have hSz : S.size = d.length + c := by rw [← ba_len, hS, List.length_append, List.length_replicate]
    have hSb : S.size ≤ 10000 := by omega
    by_cases hlt : S.size < n
    · exact absurd hlt (by omega)
    · have hSL : S.data.toList = L := by rw [hS, HL.out, show c = n - d.length by omega]
      have hnS : n ≤ S.size := by omega
      have hSLl : S.size = L.length := by rw [← ba_len, hSL]
      obtain ⟨cap, row, mk, hcap, hcv, hrow, hfz⟩ := cbytes_new w (S.extract 0 n)
      have hxs : (S.extract 0 n).size = n := by rw [ByteArray.size_extract]; omega
      have HR0 := Lib.hid (RowE.new (W := w.drew) (L := L.take n) (by rw [Lib.extract_data, hSL, List.drop_zero, Nat.sub_zero]) hrow hfz)
      rw [hxs] at hcv hcap
      have hb0 := ((Below.refl w.heap.size w).drew).alloc (o := .cells row 5 mk) (Nat.le_refl _)
      obtain ⟨W0, hW0⟩ : ∃ W0, w.drew.alloc (.cells row 5 mk) = W0 := ⟨_, rfl⟩
      have hRd : w.drew.heap.size = w.heap.size := rfl
      rw [hW0] at hcv hb0 HR0
      rw [hRd] at HR0
      obtain ⟨R, hR⟩ : ∃ R, w.heap.size = R := ⟨_, rfl⟩
      rw [hR] at hcv HR0
      have HRR := Lib.hid hR
      have HSL := Lib.hid hSL
      have hbyte : ∀ j (hj : j < S.size), L[j]? = some (S[j]'hj) := fun j hj => by
        rw [← hSL, Array.getElem?_toList, Array.getElem?_eq_getElem hj]
        rfl
      have HBY := Lib.hid hbyte
      have htl : (L.take n).length = n := by rw [List.length_take]; omega
      have HTL := Lib.hid htl
      have hcs0 := HR0.out.str (cap := cap)
      rw [htl] at hcs0
      have HLl := Lib.hid hLl
      have HSLl := Lib.hid hSLl
      clear hS hSL hxs hrow hfz hW0 hRd hR hbyte htl hc hlt hSz hLl hSLl
      have hAn : n < S.size := by have := HSLl.out; omega
      have hbc : (S[n]'hAn) = c0 := by have h := HBY.out n hAn; rw [HC0.out] at h; exact (Option.some.inj h).symm
      have hbz : ((S[n]'hAn).toNat : Int) = (z0 : Int) := by rw [hbc, HZ0.out]
      have hc53i : (53 : Int) ≤ (z0 : Int) := by omega
      clear hbc
      by_cases h0z : 53 < z0
      · have h0i : (53 : Int) < (z0 : Int) := by omega
        go_wp2_with fail
        go_loop [7, 8] (fun rv iv => ∃ (i : Nat) (β : Bool), rv = .bool β ∧ iv = .int .i64 (i : Int) ∧ n + 1 ≤ i ∧ i ≤ S.size ∧ (β = true ↔ 53 < z0 ∨ ∃ j, n < j ∧ j < i ∧ L[j]? ≠ some 48)) (fun _ iv => S.size - (RowKit.intOf iv).toNat)
        case atStart => exact ⟨n + 1, _, rfl, by go_num, by omega, by omega, ⟨fun h => Or.inl h0z, fun _ => rfl⟩⟩
        case round =>
          obtain ⟨i, β, rfl, rfl, hi1, hi2, hβ⟩ := hrel
          have HB := Lib.hid hβ
          clear hβ
          by_cases hi : i < S.size
          · cases β with
            | true =>
              go_wp2_with fail
              go_round
              case rel => exact ⟨i + 1, true, rfl, by go_num, by omega, by omega, ⟨fun _ => by
                rcases HB.out.1 rfl with h | ⟨j, h1, h2, h3⟩
                · exact Or.inl h
                · exact Or.inr ⟨j, h1, by omega, h3⟩, fun _ => rfl⟩⟩
              case measure => simp [RowKit.intOf]; omega
            | false =>
              by_cases h48 : (S[i]'hi).toNat = 48
              · have hb48 : (((S[i]'hi).toNat : Int) != 48) = false := by rw [bne_eq_false_iff_eq]; omega
                have H48 := Lib.hid h48
                clear h48
                go_wp2_with fail
                go_round
                case rel => exact ⟨i + 1, false, rfl, by go_num, by omega, by omega, ⟨fun h => absurd h (by decide), fun h => by
                  rcases h with h | ⟨j, h1, h2, h3⟩
                  · exact HB.out.2 (Or.inl h)
                  · rcases Nat.lt_or_ge j i with h4 | h4
                    · exact HB.out.2 (Or.inr ⟨j, h1, h4, h3⟩)
                    · obtain rfl : j = i := by omega
                      rw [HBY.out j hi] at h3
                      exact absurd (congrArg some (UInt8.toNat_inj.1 H48.out)) h3⟩⟩
                case measure => simp [RowKit.intOf]; omega
              · have hb48 : (((S[i]'hi).toNat : Int) != 48) = true := by rw [bne_iff_ne]; omega
                have H48 := Lib.hid h48
                clear h48
                go_wp2_with fail
                go_round
                case rel => exact ⟨i + 1, true, rfl, by go_num, by omega, by omega, ⟨fun _ => Or.inr ⟨i, by omega, by omega, fun e => H48.out (by rw [HBY.out i hi] at e; rw [Option.some.inj e]; rfl)⟩, fun _ => rfl⟩⟩
                case measure => simp [RowKit.intOf]; omega
          · obtain rfl : i = S.size := by omega
            have hrest : β = true ↔ 53 < z0 ∨ 0 < pv (L.drop (n + 1)) := by
              rw [HB.out, HPPI.out]
              constructor
              · rintro (h | ⟨j, h1, h2, h3⟩)
                · exact Or.inl h
                · obtain ⟨x, hx⟩ : ∃ x, L[j]? = some x := ⟨_, HBY.out j h2⟩
                  refine Or.inr ⟨x, ?_, fun e => h3 (by rw [hx, e])⟩
                  refine List.mem_iff_getElem?.2 ⟨j - (n + 1), ?_⟩
                  rw [List.getElem?_drop, show n + 1 + (j - (n + 1)) = j by omega]
                  exact hx
              · rintro (h | ⟨x, hx, hne⟩)
                · exact Or.inl h
                · obtain ⟨j, hj⟩ := List.mem_iff_getElem?.1 hx
                  rw [List.getElem?_drop] at hj
                  have hjl := (List.getElem?_eq_some_iff.1 hj).1
                  exact Or.inr ⟨n + 1 + j, by omega, by have := HSLl.out; omega, fun e => hne (by rw [hj] at e; exact Option.some.inj e)⟩
            have HRE := Lib.hid hrest
            clear hrest
            have hno := fun h => HUP.out (HIFF.out.2 h)
            rw [HZ0.out] at hno
            cases β with
            | true =>
              exfalso
              rcases HRE.out.1 rfl with h | h
              · exact hno (Or.inl h)
              · exact hno (by omega)
            | false =>
              by_cases hn0' : n = 0
              · subst hn0'
                clear HRE hno
                go_wp2_with fail
                go_loopw [6, 9] (fun u iv wr => u = .bool false ∧ iv = .int .i64 (-1) ∧ wr = W0) (fun _ _ _ => 0)
                case atStart => exact ⟨rfl, rfl, rfl⟩
                case round =>
                  obtain ⟨rfl, rfl, rfl⟩ := hrel
                  go_wp2_with fail
                  all_goals
                    go_ret
                    exact ⟨_, rfl, HNO.out, hb0⟩
              · have hodd : ¬ pv (L.take n) % 2 = 1 := fun h => hno (by omega)
                have hev : pv (L.take n) % 2 = 0 := by omega
                have hn0 : 0 < n := by omega
                obtain ⟨hcell, hfro⟩ := HR0.out (n - 1) (by rw [HTL.out]; omega)
                obtain ⟨p0, hp0⟩ : ∃ p0, (L.take n)[n - 1]'(by rw [HTL.out]; omega) = p0 := ⟨_, rfl⟩
                rw [hp0] at hcell
                have hpl : L[n - 1]? = some p0 := by
                  have h := List.getElem?_eq_getElem (l := L.take n) (i := n - 1) (by rw [HTL.out]; omega)
                  rw [hp0, List.getElem?_take_of_lt (by omega)] at h
                  exact h
                have hpo := odd_pos HLd.out hn0 hpl
                rw [hev] at hpo
                obtain ⟨y0, hy0⟩ : ∃ y0, p0.toNat = y0 := ⟨_, rfl⟩
                rw [hy0] at hcell hpo
                have hpar : ((y0 : Int) % 2 == 1) = false := by rw [beq_eq_false_iff_ne]; omega
                have hn1 : ((n : Int) - 1).toNat = n - 1 := by omega
                have hnc : n - 1 < cap := by omega
                clear hp0 hpl hpo hy0 hodd
                clear HRE hno hev
                go_wp2_with fail
                go_loopw [6, 9] (fun u iv wr => u = .bool false ∧ iv = .int .i64 ((n : Int) - 1) ∧ wr = W0) (fun _ _ _ => 0)
                case atStart => exact ⟨rfl, rfl, rfl⟩
                case round =>
                  obtain ⟨rfl, rfl, rfl⟩ := hrel
                  go_wp2_with fail
                  all_goals
                    go_ret
                    exact ⟨_, rfl, HNO.out, hb0⟩
      · have h0i : ¬ (53 : Int) < (z0 : Int) := by omega
        go_wp2_with fail
        go_loop [7, 8] (fun rv iv => ∃ (i : Nat) (β : Bool), rv = .bool β ∧ iv = .int .i64 (i : Int) ∧ n + 1 ≤ i ∧ i ≤ S.size ∧ (β = true ↔ 53 < z0 ∨ ∃ j, n < j ∧ j < i ∧ L[j]? ≠ some 48)) (fun _ iv => S.size - (RowKit.intOf iv).toNat)
        case atStart => exact ⟨n + 1, _, rfl, by go_num, by omega, by omega, ⟨fun h => absurd h (by decide), fun h => by rcases h with h | ⟨j, h1, h2, _⟩ <;> omega⟩⟩
        case round =>
          obtain ⟨i, β, rfl, rfl, hi1, hi2, hβ⟩ := hrel
          have HB := Lib.hid hβ
          clear hβ
          by_cases hi : i < S.size
          · cases β with
            | true =>
              go_wp2_with fail
              go_round
              case rel => exact ⟨i + 1, true, rfl, by go_num, by omega, by omega, ⟨fun _ => by
                rcases HB.out.1 rfl with h | ⟨j, h1, h2, h3⟩
                · exact Or.inl h
                · exact Or.inr ⟨j, h1, by omega, h3⟩, fun _ => rfl⟩⟩
              case measure => simp [RowKit.intOf]; omega
            | false =>
              by_cases h48 : (S[i]'hi).toNat = 48
              · have hb48 : (((S[i]'hi).toNat : Int) != 48) = false := by rw [bne_eq_false_iff_eq]; omega
                have H48 := Lib.hid h48
                clear h48
                go_wp2_with fail
                go_round
                case rel => exact ⟨i + 1, false, rfl, by go_num, by omega, by omega, ⟨fun h => absurd h (by decide), fun h => by
                  rcases h with h | ⟨j, h1, h2, h3⟩
                  · exact HB.out.2 (Or.inl h)
                  · rcases Nat.lt_or_ge j i with h4 | h4
                    · exact HB.out.2 (Or.inr ⟨j, h1, h4, h3⟩)
                    · obtain rfl : j = i := by omega
                      rw [HBY.out j hi] at h3
                      exact absurd (congrArg some (UInt8.toNat_inj.1 H48.out)) h3⟩⟩
                case measure => simp [RowKit.intOf]; omega
              · have hb48 : (((S[i]'hi).toNat : Int) != 48) = true := by rw [bne_iff_ne]; omega
                have H48 := Lib.hid h48
                clear h48
                go_wp2_with fail
                go_round
                case rel => exact ⟨i + 1, true, rfl, by go_num, by omega, by omega, ⟨fun _ => Or.inr ⟨i, by omega, by omega, fun e => H48.out (by rw [HBY.out i hi] at e; rw [Option.some.inj e]; rfl)⟩, fun _ => rfl⟩⟩
                case measure => simp [RowKit.intOf]; omega
          · obtain rfl : i = S.size := by omega
            have hrest : β = true ↔ 53 < z0 ∨ 0 < pv (L.drop (n + 1)) := by
              rw [HB.out, HPPI.out]
              constructor
              · rintro (h | ⟨j, h1, h2, h3⟩)
                · exact Or.inl h
                · obtain ⟨x, hx⟩ : ∃ x, L[j]? = some x := ⟨_, HBY.out j h2⟩
                  refine Or.inr ⟨x, ?_, fun e => h3 (by rw [hx, e])⟩
                  refine List.mem_iff_getElem?.2 ⟨j - (n + 1), ?_⟩
                  rw [List.getElem?_drop, show n + 1 + (j - (n + 1)) = j by omega]
                  exact hx
              · rintro (h | ⟨x, hx, hne⟩)
                · exact Or.inl h
                · obtain ⟨j, hj⟩ := List.mem_iff_getElem?.1 hx
                  rw [List.getElem?_drop] at hj
                  have hjl := (List.getElem?_eq_some_iff.1 hj).1
                  exact Or.inr ⟨n + 1 + j, by omega, by have := HSLl.out; omega, fun e => hne (by rw [hj] at e; exact Option.some.inj e)⟩
            have HRE := Lib.hid hrest
            clear hrest
            have hno := fun h => HUP.out (HIFF.out.2 h)
            rw [HZ0.out] at hno
            cases β with
            | true =>
              exfalso
              rcases HRE.out.1 rfl with h | h
              · exact hno (Or.inl h)
              · exact hno (by omega)
            | false =>
              by_cases hn0' : n = 0
              · subst hn0'
                clear HRE hno
                go_wp2_with fail
                go_loopw [6, 9] (fun u iv wr => u = .bool false ∧ iv = .int .i64 (-1) ∧ wr = W0) (fun _ _ _ => 0)
                case atStart => exact ⟨rfl, rfl, rfl⟩
                case round =>
                  obtain ⟨rfl, rfl, rfl⟩ := hrel
                  go_wp2_with fail
                  all_goals
                    go_ret
                    exact ⟨_, rfl, HNO.out, hb0⟩
              · have hodd : ¬ pv (L.take n) % 2 = 1 := fun h => hno (by omega)
                have hev : pv (L.take n) % 2 = 0 := by omega
                have hn0 : 0 < n := by omega
                obtain ⟨hcell, hfro⟩ := HR0.out (n - 1) (by rw [HTL.out]; omega)
                obtain ⟨p0, hp0⟩ : ∃ p0, (L.take n)[n - 1]'(by rw [HTL.out]; omega) = p0 := ⟨_, rfl⟩
                rw [hp0] at hcell
                have hpl : L[n - 1]? = some p0 := by
                  have h := List.getElem?_eq_getElem (l := L.take n) (i := n - 1) (by rw [HTL.out]; omega)
                  rw [hp0, List.getElem?_take_of_lt (by omega)] at h
                  exact h
                have hpo := odd_pos HLd.out hn0 hpl
                rw [hev] at hpo
                obtain ⟨y0, hy0⟩ : ∃ y0, p0.toNat = y0 := ⟨_, rfl⟩
                rw [hy0] at hcell hpo
                have hpar : ((y0 : Int) % 2 == 1) = false := by rw [beq_eq_false_iff_ne]; omega
                have hn1 : ((n : Int) - 1).toNat = n - 1 := by omega
                have hnc : n - 1 < cap := by omega
                clear hp0 hpl hpo hy0 hodd
                clear HRE hno hev
                go_wp2_with fail
                go_loopw [6, 9] (fun u iv wr => u = .bool false ∧ iv = .int .i64 ((n : Int) - 1) ∧ wr = W0) (fun _ _ _ => 0)
                case atStart => exact ⟨rfl, rfl, rfl⟩
                case round =>
                  obtain ⟨rfl, rfl, rfl⟩ := hrel
                  go_wp2_with fail
                  all_goals
                    go_ret
                    exact ⟨_, rfl, HNO.out, hb0⟩
/-- The definition's Cut. -/
theorem rcut_any (s : ByteArray) (n : Nat) (w : World) (hs : s.size ≤ 5000) (hn : n ≤ 5000) (hd : Dec s.data.toList) :
    Calls Tryz.prog 32 #[.string s, .int .i64 n] w (CutEnd w s.data.toList n) := by
  obtain ⟨L, hL⟩ : ∃ L, L = s.data.toList ++ List.replicate (n - s.data.toList.length) 48 := ⟨_, rfl⟩
  rcases Nat.lt_or_ge n L.length with h | h
  · rcases Nat.lt_or_ge L[n].toNat 53 with h2 | h2
    · exact rcut_a2 s n _ L w hs hn rfl hd hL h h2
    · by_cases h3 : UpB L n
      · exact rcut_bup s n _ L w hs hn rfl hd hL h h2 h3
      · exact rcut_bno s n _ L w hs hn rfl hd hL h h2 h3
  · exact rcut_a1 s n _ L w hs hn rfl hd hL h
end Go.Proofs.YtkjdmjglpbnmoaaGreatDoor

namespace Go.Proofs.YtkjdmjglpbnmoaaGreatDoor
open Go.RowKit Go.Lib

/-- The digits that are cut: their number is the float's, times ten to how many stand behind the point. -/
theorem cut_ratio {P0 L p n l N D : Nat} (hD : 0 < D) (h : P0 * D = N * 10 ^ L) (hn : n + L = l + p) : rnd (P0 * 10 ^ (n - l)) (10 ^ (l - n)) = rnd (N * 10 ^ p) D := by
  refine rnd_ratio (Nat.pow_pos (by omega)) hD ?_
  have e : 10 ^ L * 10 ^ (n - l) = 10 ^ p * 10 ^ (l - n) := by rw [← Nat.pow_add, ← Nat.pow_add, show L + (n - l) = p + (l - n) by omega]
  calc P0 * 10 ^ (n - l) * D = P0 * D * 10 ^ (n - l) := by ac_rfl
    _ = N * (10 ^ L * 10 ^ (n - l)) := by rw [h, Nat.mul_assoc]
    _ = N * (10 ^ p * 10 ^ (l - n)) := by rw [e]
    _ = N * 10 ^ p * 10 ^ (l - n) := by rw [Nat.mul_assoc]
/-- A nought ahead: nothing is carried over. -/
theorem cut_short {P0 n l : Nat} (h : P0 < 10 ^ (l - 1)) (hl : 1 ≤ l) (hn : 1 ≤ n) : rnd (P0 * 10 ^ (n - l)) (10 ^ (l - n)) < 10 ^ n := by
  have h1 : rnd (P0 * 10 ^ (n - l)) (10 ^ (l - n)) ≤ rnd (10 ^ (n - 1) * 10 ^ (l - n)) (10 ^ (l - n)) := by
    refine rnd_mono (Nat.pow_pos (by omega)) (Nat.pow_pos (by omega)) ?_
    refine Nat.mul_le_mul_right _ ?_
    rw [← Nat.pow_add, show n - 1 + (l - n) = l - 1 + (n - l) by omega, Nat.pow_add]
    exact Nat.mul_le_mul_right _ (Nat.le_of_lt h)
  rw [rnd_exact _ _ (Nat.pow_pos (by omega))] at h1
  have h2 : 10 ^ (n - 1) < 10 ^ n := Nat.pow_lt_pow_right (by omega) (by omega)
  omega
set_option maxRecDepth 100000 in
set_option maxHeartbeats 1000000 in
theorem rfixed_inf (b : Nat) (p : Int) (w : World) (hb : b < 18446744073709551616) (h : 9218868437227405312 ≤ mag b)
    (cP : ∀ W, Calls Tryz.prog 15 #[.float .f64 b] W fun e w' => e = .returned (.tuple #[.int .u64 0, .int .i64 0, .bool false]) ∧ W = w') :
    Calls Tryz.prog 11 #[.float .f64 b, .int .i64 p] w fun e w' => e = .returned (.tuple #[.string ⟨#[]⟩, .int .i64 1]) ∧ Below w.heap.size w w' := by
  have CP := Lib.hid cP
  clear cP hb h
  go_enter Tryz.func11, Tryz.ntmps11
  go_wp2_with fail
  refine (CP.out _).mono ?_
  rintro e w' ⟨rfl, rfl⟩
  go_wp2_with fail
  go_ret2
  exact ⟨rfl, Below.refl _ _⟩
set_option maxRecDepth 100000 in
set_option maxHeartbeats 1000000 in
theorem rfixed_range (b : Nat) (p : Int) (w : World) (hb : b < 18446744073709551616) (h : mag b < 9218868437227405312) (hp : p < 0 ∨ 200 < p) :
    Calls Tryz.prog 11 #[.float .f64 b, .int .i64 p] w fun e w' => e = .returned (.tuple #[.string ⟨#[]⟩, .int .i64 1]) ∧ Below w.heap.size w w' := by
  have CP := Lib.hid (fun W => rparts_yes b W hb h)
  generalize manF (mag b) = m at *
  generalize expF (mag b) = E at *
  clear hb h
  rcases hp with hp | hp
  · go_enter Tryz.func11, Tryz.ntmps11
    go_wp2_with fail
    refine (CP.out _).mono ?_
    rintro e w' ⟨rfl, rfl⟩
    go_wp2_with fail
    go_ret2
    exact ⟨rfl, Below.refl _ _⟩
  · have hp2 : ¬ p < 0 := by omega
    go_enter Tryz.func11, Tryz.ntmps11
    go_wp2_with fail
    refine (CP.out _).mono ?_
    rintro e w' ⟨rfl, rfl⟩
    go_wp2_with fail
    go_ret2
    exact ⟨rfl, Below.refl _ _⟩
set_option maxRecDepth 100000 in
set_option maxHeartbeats 4000000 in
theorem rfixed_yes (b p : Nat) (w : World) (hb : b < 18446744073709551616) (h : mag b < 9218868437227405312) (hp : p ≤ 200) :
    Calls Tryz.prog 11 #[.float .f64 b, .int .i64 p] w fun e w' => e = .returned (.tuple #[.string ⟨(fixT (decs (rnd (amN (mag b) * 10 ^ p) (amD (mag b)))) p).toArray⟩, .int .i64 0]) ∧ Below w.heap.size w w' := by
  have CP := Lib.hid (fun W => rparts_yes b W hb h)
  have CD := Lib.hid (fun W => rdigits_any b W hb h)
  have CC := Lib.hid (fun (s : ByteArray) (n : Nat) (W : World) (hs : s.size ≤ 5000) (hn : n ≤ 5000) (hd : Dec s.data.toList) => rcut_any s n W hs hn hd)
  have hD0 := amD_pos (mag b)
  generalize manF (mag b) = m at *
  generalize expF (mag b) = E at *
  generalize amN (mag b) = N at *
  generalize amD (mag b) = D at *
  have HD0 := Lib.hid hD0
  clear hb h hD0
  go_enter Tryz.func11, Tryz.ntmps11
  go_wp2_with fail
  refine (CP.out _).mono ?_
  rintro e w' ⟨rfl, rfl⟩
  go_wp2_with fail
  refine (CD.out _).mono ?_
  rintro e w1 ⟨S1, S2, wn, rfl, hS1, hS2, b1, b2, hv, hB⟩
  obtain ⟨l1, hl1⟩ : ∃ l1, S1.size = l1 := ⟨_, rfl⟩
  obtain ⟨L, hL⟩ : ∃ L, S2.size = L := ⟨_, rfl⟩
  have hZl : ((⟨#[48]⟩ : ByteArray) ++ S1 ++ S2).data.toList = 48 :: (decs wn ++ S2.data.toList) := by
    rw [ByteArray.data_append, ByteArray.data_append, Array.toList_append, Array.toList_append, hS1.out]
    rfl
  have hZs : ((⟨#[48]⟩ : ByteArray) ++ S1 ++ S2).size = 1 + l1 + L := by rw [ByteArray.size_append, ByteArray.size_append, hl1, hL]; rfl
  have hZd : Dec ((⟨#[48]⟩ : ByteArray) ++ S1 ++ S2).data.toList := by
    rw [hZl]
    intro c hc
    rcases List.mem_cons.1 hc with e | e
    · rw [e]; decide
    · exact dec_append.2 ⟨dec_decs wn, hS2.out⟩ c e
  have hl1d : (decs wn).length = l1 := by rw [← hl1, ← ba_len, hS1.out]
  have hZv : pv ((⟨#[48]⟩ : ByteArray) ++ S1 ++ S2).data.toList = wn * 10 ^ L + pv S2.data.toList := by
    rw [hZl, pv_cons, pv_append, pv_decs, ba_len, hL]
    simp
  have hZb : pv ((⟨#[48]⟩ : ByteArray) ++ S1 ++ S2).data.toList < 10 ^ (1 + l1 + L - 1) := by
    have h1 := pv_lt (l := decs wn ++ S2.data.toList) (dec_append.2 ⟨dec_decs wn, hS2.out⟩)
    rw [List.length_append, hl1d, ba_len, hL] at h1
    rw [hZl, pv_cons]
    rw [show 1 + l1 + L - 1 = l1 + L by omega]
    simpa using h1
  rw [hL] at hv
  have HV := Lib.hid (show pv ((⟨#[48]⟩ : ByteArray) ++ S1 ++ S2).data.toList * D = N * 10 ^ L by rw [hZv]; exact hv.out)
  obtain ⟨Z, hZ⟩ : ∃ Z : ByteArray, (⟨#[48]⟩ : ByteArray) ++ S1 ++ S2 = Z := ⟨_, rfl⟩
  rw [hZ] at hZs hZd hZb HV
  have HZB := Lib.hid hZb
  have HZS := Lib.hid hZs
  have hZ5 : Z.size ≤ 5000 := by omega
  have cc := CC.out Z (1 + l1 + p) w1 hZ5 (by omega) hZd
  rw [show ((1 + l1 + p : Nat) : Int) = 1 + (l1 : Int) + (p : Int) by omega] at cc
  have C3 := Lib.hid cc
  have hl1i : (S1.size : Int) = (l1 : Int) := by omega
  have hl1b : l1 ≤ 3000 := by omega
  have HZd := Lib.hid hZd
  clear cc hZl hZv hl1d hv hS1 hS2 hZs hZb hl1 hL hZd
  go_wp2_with fail
  refine C3.out.mono ?_
  rintro e w2 ⟨T, rfl, ok, nb⟩
  have hB := hB.trans (nb.mono hB.size)
  have hdT := ok.dec
  have hvT : pv T = rnd (N * 10 ^ p) D := by
    rw [ok.val]
    exact cut_ratio HD0.out HV.out (by rw [ba_len, HZS.out]; omega)
  have hTn : T.length = 1 + l1 + p := by
    rcases ok.len with h | ⟨h, h2⟩
    · exact h
    · exfalso
      have h3 := cut_short (P0 := pv Z.data.toList) (n := 1 + l1 + p) (l := Z.data.toList.length) (by rw [ba_len, HZS.out]; exact HZB.out) (by rw [ba_len, HZS.out]; omega) (by omega)
      rw [← ok.val] at h3
      omega
  obtain ⟨B, hBe⟩ : ∃ B : ByteArray, (⟨T.toArray⟩ : ByteArray) = B := ⟨_, rfl⟩
  have hBT : B.data.toList = T := by rw [← hBe]
  have hBs : B.size = 1 + l1 + p := by rw [← ba_len, hBT]; exact hTn
  rw [hBe]
  obtain ⟨k, hk⟩ : ∃ k, 1 + l1 = k := ⟨_, rfl⟩
  have hBk : B.size = k + p := by omega
  have hki : (B.size : Int) - (p : Int) = (k : Int) := by omega
  have hkB : k ≤ B.size := by omega
  have hk2 : 1 ≤ k := by omega
  have hBb : B.size ≤ 4000 := by omega
  have hbyte : ∀ j (hj : j < B.size), T[j]? = some (B[j]'hj) := fun j hj => by
    rw [← hBT, Array.getElem?_toList, Array.getElem?_eq_getElem hj]
    rfl
  have HBY := Lib.hid hbyte
  have HDT := Lib.hid hdT
  have HVT := Lib.hid hvT
  have HBT := Lib.hid hBT
  have HBK := Lib.hid hBk
  have HTK := Lib.hid (show T.length = k + p by omega)
  clear ok nb hdT hvT hTn hBe hBT hBs hk hBk hbyte
  go_wp2_with fail
  go_loop [13] (fun iv => ∃ i : Nat, iv = .int .i64 (i : Int) ∧ i < k ∧ ∀ j, j < i → T[j]? = some 48) (fun iv => k - (RowKit.intOf iv).toNat)
  case atStart => exact ⟨0, rfl, by omega, fun j hj => absurd hj (Nat.not_lt_zero j)⟩
  case round =>
    obtain ⟨i, rfl, hik, h0⟩ := hrel
    have H0 := Lib.hid h0
    clear h0
    have his : i < B.size := by omega
    by_cases hgo : i + 1 < k ∧ (B[i]'his).toNat = 48
    · obtain ⟨hi1, h48⟩ := hgo
      have hb48 : (((B[i]'his).toNat : Int) == 48) = true := by rw [beq_iff_eq]; omega
      have H48 := Lib.hid h48
      clear h48
      go_wp2_with fail
      go_round
      case rel => exact ⟨i + 1, by go_num, by omega, fun j hj => by
        rcases Nat.lt_or_ge j i with h | h
        · exact H0.out j h
        · obtain rfl : j = i := by omega
          rw [HBY.out j his]
          exact congrArg some (UInt8.toNat_inj.1 H48.out)⟩
      case measure => simp [RowKit.intOf]; omega
    · have hend : i + 1 = k ∨ T[i]? ≠ some 48 := by
        by_cases h1 : i + 1 < k
        · refine Or.inr (fun e => hgo ⟨h1, ?_⟩)
          rw [HBY.out i his] at e
          rw [Option.some.inj e]
          rfl
        · exact Or.inl (by omega)
      have hfx := fix_strip (p := p) HDT.out HTK.out hik H0.out hend
      rw [HVT.out] at hfx
      have e1 : (B.extract i k).data.toList = (T.take k).drop i := by rw [Lib.extract_data, HBT.out, List.drop_take]
      have e2 : (B.extract k B.size).data.toList = T.drop k := by rw [Lib.extract_data, HBT.out, List.take_of_length_le (by rw [List.length_drop, HTK.out, HBK.out]; omega)]
      have hx1 : (B.extract i k).size ≤ 4000 := by rw [ByteArray.size_extract]; omega
      have hx2 : (B.extract k B.size).size ≤ 4000 := by rw [ByteArray.size_extract]; omega
      have g1 : (i : Int) ≤ (k : Int) := by omega
      have g2 : (k : Int) ≤ (B.size : Int) := by omega
      have g0 : (0 : Int) ≤ (i : Int) := by omega
      have g3 : (0 : Int) ≤ (k : Int) := by omega
      have HFX := Lib.hid hfx
      have HE1 := Lib.hid e1
      have HE2 := Lib.hid e2
      have hstop : ¬ i + 1 < k ∨ (i + 1 < k ∧ (((B[i]'his).toNat : Int) == 48) = false) := by
        by_cases h1 : i + 1 < k
        · refine Or.inr ⟨h1, ?_⟩
          rw [beq_eq_false_iff_ne]
          intro e
          exact hgo ⟨h1, by omega⟩
        · exact Or.inl h1
      clear hfx e1 e2 hgo hend
      by_cases hp0 : p = 0
      · have hpb : ((p : Int) == 0) = true := by rw [beq_iff_eq]; omega
        have HP0 := Lib.hid hp0
        clear hp0
        rcases hstop with h1 | ⟨h1, h2⟩
        all_goals
          go_wp2_with fail
          go_ret2
          refine ⟨?_, hB⟩
          have hfx := HFX.out
          rw [if_pos HP0.out, ← HE1.out] at hfx
          rw [hfx]
          rfl
      · have hpb : ((p : Int) == 0) = false := by rw [beq_eq_false_iff_ne]; omega
        have HSTR := Lib.hid (show B.extract i k ++ ⟨#[46]⟩ ++ B.extract k B.size = ⟨(fixT (decs (rnd (N * 10 ^ p) D)) p).toArray⟩ by
          have hfx := HFX.out
          rw [if_neg hp0, ← HE1.out, ← HE2.out] at hfx
          rw [hfx]
          apply ByteArray.ext
          apply Array.ext'
          rw [ByteArray.data_append, ByteArray.data_append, Array.toList_append, Array.toList_append]
          simp)
        clear hp0
        rcases hstop with h1 | ⟨h1, h2⟩
        all_goals
          go_wp2_with fail
          go_quiet (fail)
          go_wp2_with fail
          go_ret2
          exact ⟨by rw [← HSTR.out]; rfl, below_drewN hB _⟩
end Go.Proofs.YtkjdmjglpbnmoaaGreatDoor

namespace Go.Proofs.YtkjdmjglpbnmoaaGreatDoor
open Go.RowKit Go.Lib

/-- What Sci tells, but for a bound of the power. -/
structure SciW (N D p : Nat) (P : Int) (M : Nat) : Prop where
  val : M = sciM N D ((p : Int) - P)
  low : 10 ^ p ≤ M
  high : M < 10 ^ (p + 1)
  more : 10 ^ (p + 1) ≤ sciM N D ((p : Int) - P + 1)
theorem SciOk.weak {N D p M : Nat} {P : Int} (h : SciOk N D p P M) : SciW N D p P M := ⟨h.val, h.low, h.high, h.more⟩
theorem SciW.uniq {N D p M M' : Nat} {P P' : Int} (hD : 0 < D) (h : SciW N D p P M) (h' : SciW N D p P' M') : P = P' ∧ M = M' := by
  have key : ∀ {P P' : Int} {M M' : Nat}, SciW N D p P M → SciW N D p P' M' → ¬ P < P' := fun {P P' M M'} h h' hlt => by
    have h1 := sci_mono (N := N) hD (show (p : Int) - P' + 1 ≤ (p : Int) - P by omega)
    have h2 := h'.more
    have h3 := h.high
    rw [h.val] at h3
    omega
  have e : P = P' := by
    have := key h h'
    have := key h' h
    omega
  subst e
  exact ⟨rfl, by rw [h.val, h'.val]⟩
theorem decs_ten (q : Nat) : decs (10 ^ q) = 49 :: List.replicate q 48 := by
  have h := decs_zeros (n := 1) (by omega) q
  rw [Nat.one_mul] at h
  rw [h]
  rfl
/-- The digits that Cut leaves, and their power of ten. -/
theorem sci_cut {N D P0 L l p : Nat} {d T : List UInt8} {E : Int} (hD : 0 < D) (hv : P0 * D = N * 10 ^ L) (hl : 1 ≤ l) (hlo : 10 ^ (l - 1) ≤ P0) (hhi : P0 < 10 ^ l) (hdl : d.length = l) (hdv : pv d = P0) (hE : E = (l : Int) - (L : Int) - 1) (ok : CutOk d (p + 1) T) :
    (T.length = p + 1 ∧ SciW N D p E (pv T) ∧ T = decs (pv T)) ∨ (T.length = p + 2 ∧ SciW N D p (E + 1) (10 ^ p) ∧ T.take (p + 1) = decs (10 ^ p)) := by
  obtain ⟨k, hk⟩ : ∃ k : Int, k = (p : Int) - E := ⟨_, rfl⟩
  have e10L : 0 < 10 ^ L := Nat.pow_pos (by omega)
  have h1 : pv T = sciM N D k := by
    rw [ok.val, hdl, hdv]
    refine rnd_ratio (Nat.pow_pos (by omega)) (Nat.mul_pos hD (Nat.pow_pos (by omega))) ?_
    have e : 10 ^ L * (10 ^ (p + 1 - l) * 10 ^ (-k).toNat) = 10 ^ k.toNat * 10 ^ (l - (p + 1)) := by
      rw [← Nat.pow_add, ← Nat.pow_add, ← Nat.pow_add, show L + (p + 1 - l + (-k).toNat) = k.toNat + (l - (p + 1)) by omega]
    calc P0 * 10 ^ (p + 1 - l) * (D * 10 ^ (-k).toNat) = P0 * D * (10 ^ (p + 1 - l) * 10 ^ (-k).toNat) := by ac_rfl
      _ = N * (10 ^ L * (10 ^ (p + 1 - l) * 10 ^ (-k).toNat)) := by rw [hv, Nat.mul_assoc]
      _ = N * (10 ^ k.toNat * 10 ^ (l - (p + 1))) := by rw [e]
      _ = N * 10 ^ k.toNat * 10 ^ (l - (p + 1)) := by rw [Nat.mul_assoc]
  have h2 : 10 ^ (p + 1) ≤ sciM N D (k + 1) := by
    refine rnd_ge (Nat.mul_pos hD (Nat.pow_pos (by omega))) ?_
    refine Nat.le_of_mul_le_mul_right (c := 10 ^ L) ?_ e10L
    have e : 10 ^ (p + 1) * 10 ^ (-(k + 1)).toNat * 10 ^ L = 10 ^ (l - 1) * 10 ^ (k + 1).toNat := by
      rw [← Nat.pow_add, ← Nat.pow_add, ← Nat.pow_add, show p + 1 + (-(k + 1)).toNat + L = l - 1 + (k + 1).toNat by omega]
    calc 10 ^ (p + 1) * (D * 10 ^ (-(k + 1)).toNat) * 10 ^ L = 10 ^ (p + 1) * 10 ^ (-(k + 1)).toNat * 10 ^ L * D := by ac_rfl
      _ = 10 ^ (l - 1) * (10 ^ (k + 1).toNat * D) := by rw [e, Nat.mul_assoc]
      _ ≤ P0 * (10 ^ (k + 1).toNat * D) := Nat.mul_le_mul_right _ hlo
      _ = P0 * D * 10 ^ (k + 1).toNat := by ac_rfl
      _ = N * 10 ^ (k + 1).toNat * 10 ^ L := by rw [hv]; ac_rfl
  have h3 : 10 ^ p ≤ sciM N D k := sci_enough hD (Nat.pow_pos (by omega)) (by rw [Nat.mul_comm, ← Nat.pow_succ]; exact h2)
  rcases ok.len with hT | ⟨hT, hTv⟩
  · left
    have hlt := pv_lt ok.dec
    rw [hT] at hlt
    have hw : SciW N D p E (pv T) := ⟨by rw [h1, hk], by rw [h1]; exact h3, hlt, by rw [← hk]; exact h2⟩
    exact ⟨hT, hw, pv_inj ok.dec (dec_decs _) (by rw [hT, decs_len_of hw.low hw.high]) (pv_decs _).symm⟩
  · right
    have h4 : sciM N D (k - 1 + 1) = 10 ^ (p + 1) := by rw [show k - 1 + 1 = k by omega, ← h1, hTv]
    have h5 : 10 ^ p ≤ sciM N D (k - 1) := sci_enough hD (Nat.pow_pos (by omega)) (by rw [Nat.mul_comm, ← Nat.pow_succ, h4]; exact Nat.le_refl _)
    have h6 : sciM N D (k - 1) ≤ 10 ^ p := by
      have hB : 0 < D * 10 ^ (-(k - 1)).toNat := Nat.mul_pos hD (Nat.pow_pos (by omega))
      have hm : sciM N D (k - 1) ≤ rnd (10 ^ p * (D * 10 ^ (-(k - 1)).toNat)) (D * 10 ^ (-(k - 1)).toNat) := by
        refine rnd_mono hB hB (Nat.mul_le_mul_right _ ?_)
        refine Nat.le_of_mul_le_mul_right (c := 10 ^ L) ?_ e10L
        have e : 10 ^ l * 10 ^ (k - 1).toNat = 10 ^ p * 10 ^ (-(k - 1)).toNat * 10 ^ L := by
          rw [← Nat.pow_add, ← Nat.pow_add, ← Nat.pow_add, show l + (k - 1).toNat = p + (-(k - 1)).toNat + L by omega]
        calc N * 10 ^ (k - 1).toNat * 10 ^ L = P0 * D * 10 ^ (k - 1).toNat := by rw [hv]; ac_rfl
          _ = P0 * (10 ^ (k - 1).toNat * D) := by ac_rfl
          _ ≤ 10 ^ l * (10 ^ (k - 1).toNat * D) := Nat.mul_le_mul_right _ (Nat.le_of_lt hhi)
          _ = 10 ^ p * 10 ^ (-(k - 1)).toNat * 10 ^ L * D := by rw [← e, Nat.mul_assoc]
          _ = 10 ^ p * (D * 10 ^ (-(k - 1)).toNat) * 10 ^ L := by ac_rfl
      rwa [rnd_exact _ _ hB] at hm
    have hp1 : 10 ^ p < 10 ^ (p + 1) := Nat.pow_lt_pow_right (by omega) (by omega)
    have hw : SciW N D p (E + 1) (10 ^ p) := ⟨by rw [show (p : Int) - (E + 1) = k - 1 by omega]; omega, Nat.le_refl _, hp1, by rw [show (p : Int) - (E + 1) + 1 = k - 1 + 1 by omega, h4]; exact Nat.le_refl _⟩
    have hTd : T = decs (10 ^ (p + 1)) := pv_inj ok.dec (dec_decs _) (by rw [hT, decs_ten]; simp) (by rw [hTv, pv_decs])
    refine ⟨hT, hw, ?_⟩
    rw [hTd, decs_ten, decs_ten, List.take_succ_cons, List.take_replicate, Nat.min_eq_left (by omega)]
set_option maxRecDepth 100000 in
set_option maxHeartbeats 1000000 in
theorem rsci_inf (b : Nat) (p : Int) (w : World)
    (cP : ∀ W, Calls Tryz.prog 15 #[.float .f64 b] W fun e w' => e = .returned (.tuple #[.int .u64 0, .int .i64 0, .bool false]) ∧ W = w') :
    Calls Tryz.prog 13 #[.float .f64 b, .int .i64 p] w fun e w' => e = .returned (.tuple #[.string ⟨#[]⟩, .int .i64 0, .int .i64 1]) ∧ Below w.heap.size w w' := by
  have CP := Lib.hid cP
  clear cP
  go_enter Tryz.func13, Tryz.ntmps13
  go_wp2_with fail
  refine (CP.out _).mono ?_
  rintro e w' ⟨rfl, rfl⟩
  go_wp2_with fail
  go_ret3
  exact ⟨rfl, Below.refl _ _⟩
set_option maxRecDepth 100000 in
set_option maxHeartbeats 1000000 in
theorem rsci_range (b : Nat) (p : Int) (w : World) (hb : b < 18446744073709551616) (h : mag b < 9218868437227405312) (hp : p < 0 ∨ 200 < p) :
    Calls Tryz.prog 13 #[.float .f64 b, .int .i64 p] w fun e w' => e = .returned (.tuple #[.string ⟨#[]⟩, .int .i64 0, .int .i64 1]) ∧ Below w.heap.size w w' := by
  have CP := Lib.hid (fun W => rparts_yes b W hb h)
  generalize manF (mag b) = m at *
  generalize expF (mag b) = E at *
  clear hb h
  rcases hp with hp | hp
  · go_enter Tryz.func13, Tryz.ntmps13
    go_wp2_with fail
    refine (CP.out _).mono ?_
    rintro e w' ⟨rfl, rfl⟩
    go_wp2_with fail
    go_ret3
    exact ⟨rfl, Below.refl _ _⟩
  · have hp2 : ¬ p < 0 := by omega
    go_enter Tryz.func13, Tryz.ntmps13
    go_wp2_with fail
    refine (CP.out _).mono ?_
    rintro e w' ⟨rfl, rfl⟩
    go_wp2_with fail
    go_ret3
    exact ⟨rfl, Below.refl _ _⟩
set_option maxRecDepth 100000 in
set_option maxHeartbeats 2000000 in
theorem rsci_zero (b p : Nat) (w : World) (hb : b < 18446744073709551616) (h : mag b = 0) (hp : p ≤ 200) :
    Calls Tryz.prog 13 #[.float .f64 b, .int .i64 p] w fun e w' => e = .returned (.tuple #[.string ⟨(List.replicate (p + 1) (48 : UInt8)).toArray⟩, .int .i64 0, .int .i64 0]) ∧ Below w.heap.size w w' := by
  have c1 := fun W => rparts_yes b W hb (by omega)
  rw [h, show ((manF 0 : Nat) : Int) = 0 by decide] at c1
  generalize expF 0 = E at c1
  have CP := Lib.hid c1
  have cc := fun W => rcut_any ⟨#[48]⟩ (p + 1) W (by decide) (by omega) (dec_noughts 1)
  rw [show ((p + 1 : Nat) : Int) = (p : Int) + 1 by omega] at cc
  have CC := Lib.hid cc
  clear c1 cc hb h
  go_enter Tryz.func13, Tryz.ntmps13
  go_wp2_with fail
  refine (CP.out _).mono ?_
  rintro e w' ⟨rfl, rfl⟩
  go_wp2_with fail
  refine (CC.out _).mono ?_
  rintro e w2 ⟨T, rfl, ok, hB⟩
  have hv : pv T = 0 := by
    rw [ok.val, show pv (⟨#[48]⟩ : ByteArray).data.toList = 0 by decide, Nat.zero_mul]
    have := rnd_exact 0 (10 ^ ((⟨#[48]⟩ : ByteArray).data.toList.length - (p + 1))) (Nat.pow_pos (by omega))
    rwa [Nat.zero_mul] at this
  have hT : T = List.replicate (p + 1) 48 := by
    refine pv_inj ok.dec (dec_noughts _) ?_ (by rw [hv, pv_zeros])
    rw [List.length_replicate]
    rcases ok.len with h | ⟨_, h2⟩
    · exact h
    · have := Nat.pow_pos (n := p + 1) (show 0 < 10 by omega)
      omega
  clear ok hv
  subst hT
  obtain ⟨Z, hZ⟩ : ∃ Z : ByteArray, (⟨(List.replicate (p + 1) (48 : UInt8)).toArray⟩ : ByteArray) = Z := ⟨_, rfl⟩
  rw [hZ]
  have HZ := Lib.hid hZ
  clear hZ
  go_wp2_with fail
  go_ret3
  exact ⟨by rw [HZ.out]; rfl, hB⟩
def RSci (w : World) (N D p : Nat) (e : Ending) (w' : World) : Prop := ∃ (P : Int) (M : Nat), e = .returned (.tuple #[.string ⟨(decs M).toArray⟩, .int .i64 P, .int .i64 0]) ∧ Hid (SciW N D p P M) ∧ Below w.heap.size w w'
set_option maxRecDepth 100000 in
set_option maxHeartbeats 4000000 in
theorem rsci_yes (b p : Nat) (w : World) (hb : b < 18446744073709551616) (h0 : 0 < mag b) (h : mag b < 9218868437227405312) (hp : p ≤ 200) :
    Calls Tryz.prog 13 #[.float .f64 b, .int .i64 p] w (RSci w (amN (mag b)) (amD (mag b)) p) := by
  have CP := Lib.hid (fun W => rparts_yes b W hb h)
  have CD := Lib.hid (fun W => rdigits_any b W hb h)
  have CC := Lib.hid (fun (s : ByteArray) (n : Nat) (W : World) (hs : s.size ≤ 5000) (hn : n ≤ 5000) (hd : Dec s.data.toList) => rcut_any s n W hs hn hd)
  have hD0 := amD_pos (mag b)
  have hm0 : 0 < manF (mag b) := by unfold manF; split <;> omega
  have hN0 : 0 < amN (mag b) := Nat.mul_pos hm0 (Nat.pow_pos (by omega))
  have hmb : (((manF (mag b) : Nat) : Int) == 0) = false := by rw [beq_eq_false_iff_ne]; omega
  generalize manF (mag b) = m at *
  generalize expF (mag b) = E at *
  generalize amN (mag b) = N at *
  generalize amD (mag b) = D at *
  have HD0 := Lib.hid hD0
  have HN0 := Lib.hid hN0
  clear hb h h0 hD0 hN0 hm0
  go_enter Tryz.func13, Tryz.ntmps13
  go_wp2_with fail
  refine (CP.out _).mono ?_
  rintro e w' ⟨rfl, rfl⟩
  go_wp2_with fail
  refine (CD.out _).mono ?_
  rintro e w1 ⟨S1, S2, wn, rfl, hS1, hS2, b1, b2, hv, hB⟩
  obtain ⟨l1, hl1⟩ : ∃ l1, S1.size = l1 := ⟨_, rfl⟩
  obtain ⟨L, hL⟩ : ∃ L, S2.size = L := ⟨_, rfl⟩
  have hZl : (S1 ++ S2).data.toList = decs wn ++ S2.data.toList := by rw [ByteArray.data_append, Array.toList_append, hS1.out]
  have hZs : (S1 ++ S2).size = l1 + L := by rw [ByteArray.size_append, hl1, hL]
  have hZd : Dec (S1 ++ S2).data.toList := by rw [hZl]; exact dec_append.2 ⟨dec_decs wn, hS2.out⟩
  have hZv : pv (S1 ++ S2).data.toList = wn * 10 ^ L + pv S2.data.toList := by rw [hZl, pv_append, pv_decs, ba_len, hL]
  rw [hL] at hv
  have hV : pv (S1 ++ S2).data.toList * D = N * 10 ^ L := by rw [hZv]; exact hv.out
  have hl1i : (S1.size : Int) = (l1 : Int) := by omega
  have hl1b : l1 ≤ 3000 := by omega
  obtain ⟨Z, hZ⟩ : ∃ Z : ByteArray, S1 ++ S2 = Z := ⟨_, rfl⟩
  rw [hZ] at hZs hZd hV
  obtain ⟨d, hde⟩ : ∃ d, Z.data.toList = d := ⟨_, rfl⟩
  rw [hde] at hZd hV
  have hdl : d.length = l1 + L := by rw [← hde, ba_len]; exact hZs
  have hpos : 0 < pv d := by
    rcases Nat.eq_zero_or_pos (pv d) with h | h
    · rw [h, Nat.zero_mul] at hV
      have := Nat.mul_pos HN0.out (Nat.pow_pos (n := L) (show 0 < 10 by omega))
      omega
    · exact h
  obtain ⟨x, hx, hne⟩ := (pv_pos_iff hZd).1 hpos
  obtain ⟨f, hf⟩ := List.mem_iff_getElem?.1 hx
  have hfl := (List.getElem?_eq_some_iff.1 hf).1
  have hbyte : ∀ j (hj : j < Z.size), d[j]? = some (Z[j]'hj) := fun j hj => by
    rw [← hde, Array.getElem?_toList, Array.getElem?_eq_getElem hj]
    rfl
  have HBY := Lib.hid hbyte
  have HV := Lib.hid hV
  have HZd := Lib.hid hZd
  have HF := Lib.hid (show d[f]? ≠ some 48 from fun e => hne (by rw [hf] at e; exact Option.some.inj e))
  have hfZ : f < Z.size := by omega
  have HDL := Lib.hid hdl
  have HZS := Lib.hid hZs
  have HDE := Lib.hid hde
  have hZ5 : Z.size ≤ 4200 := by omega
  clear hZl hZv hv hS1 hS2 hZs hl1 hL hZd hV hde hdl hpos hx hne hf hfl hbyte
  go_wp2_with fail
  go_loop [13] (fun iv => ∃ i : Nat, iv = .int .i64 (i : Int) ∧ i ≤ f ∧ ∀ j, j < i → d[j]? = some 48) (fun iv => f - (RowKit.intOf iv).toNat)
  case atStart => exact ⟨0, rfl, by omega, fun j hj => absurd hj (Nat.not_lt_zero j)⟩
  case round =>
    obtain ⟨i, rfl, hif, h0⟩ := hrel
    have H0 := Lib.hid h0
    clear h0
    have his : i < Z.size := by omega
    by_cases h48 : (Z[i]'his).toNat = 48
    · have hb48 : (((Z[i]'his).toNat : Int) == 48) = true := by rw [beq_iff_eq]; omega
      have hlt : i < f := by
        rcases Nat.lt_or_ge i f with h | h
        · exact h
        · obtain rfl : i = f := by omega
          exact absurd ((HBY.out i his).trans (congrArg some (UInt8.toNat_inj.1 (show (Z[i]'his).toNat = (48 : UInt8).toNat from h48)))) HF.out
      have H48 := Lib.hid h48
      clear h48
      go_wp2_with fail
      go_round
      case rel => exact ⟨i + 1, by go_num, by omega, fun j hj => by
        rcases Nat.lt_or_ge j i with h | h
        · exact H0.out j h
        · obtain rfl : j = i := by omega
          rw [HBY.out j his]
          exact congrArg some (UInt8.toNat_inj.1 H48.out)⟩
      case measure => simp [RowKit.intOf]; omega
    · have hb48 : (((Z[i]'his).toNat : Int) == 48) = false := by rw [beq_eq_false_iff_ne]; omega
      obtain ⟨l, hl⟩ : ∃ l, d.length - i = l := ⟨_, rfl⟩
      have hil : i < d.length := by rw [HDL.out, ← HZS.out]; exact his
      have hxl : (Z.extract i Z.size).data.toList = d.drop i := by rw [Lib.extract_data, HDE.out, List.take_of_length_le (by rw [List.length_drop, HDL.out, HZS.out]; omega)]
      have hxd : Dec (Z.extract i Z.size).data.toList := by rw [hxl]; exact dec_drop HZd.out i
      have hdv : pv (d.drop i) = pv d := by
        have ht : d.take i = List.replicate i 48 := by
          refine List.eq_replicate_iff.2 ⟨by rw [List.length_take]; omega, fun b hb => ?_⟩
          obtain ⟨j, hj, e⟩ := List.getElem_of_mem hb
          rw [List.length_take] at hj
          rw [List.getElem_take] at e
          have := H0.out j (by omega)
          rw [List.getElem?_eq_getElem (by omega)] at this
          rw [← e]
          exact Option.some.inj this
        have hsp := pv_split d i
        rw [ht, pv_zeros, Nat.zero_mul, Nat.zero_add] at hsp
        exact hsp.symm
      have hdrl : (d.drop i).length = l := by rw [List.length_drop, hl]
      have hlo : 10 ^ (l - 1) ≤ pv d := by
        have hc := HZd.out (d[i]) (List.getElem_mem hil)
        have h1 : d[i] = Z[i]'his := by
          have h := HBY.out i his
          rw [List.getElem?_eq_getElem hil] at h
          exact Option.some.inj h
        have h2 : 1 ≤ (d[i]).toNat - 48 := by rw [h1] at hc ⊢; omega
        rw [← hdv, List.drop_eq_getElem_cons hil, pv_cons, show (d.drop (i + 1)).length = l - 1 by rw [List.length_drop]; omega]
        have h6 : 1 * 10 ^ (l - 1) ≤ ((d[i]).toNat - 48) * 10 ^ (l - 1) := Nat.mul_le_mul_right _ h2
        omega
      have hhi : pv d < 10 ^ l := by
        rw [← hdv, ← hdrl]
        exact pv_lt (dec_drop HZd.out i)
      have cc := CC.out (Z.extract i Z.size) (p + 1) w1 (by rw [ByteArray.size_extract]; omega) (by omega) hxd
      rw [hxl, show ((p + 1 : Nat) : Int) = (p : Int) + 1 by omega] at cc
      have C3 := Lib.hid cc
      have HSC := Lib.hid (fun (T : List UInt8) (ok : CutOk (d.drop i) (p + 1) T) => sci_cut (N := N) (D := D) (E := (l1 : Int) - 1 - (i : Int)) HD0.out HV.out (by omega) hlo hhi hdrl hdv (by have := HDL.out; omega) ok)
      have hiZ : (i : Int) ≤ (Z.size : Int) := by omega
      have g0 : (0 : Int) ≤ (i : Int) := by omega
      clear cc hxl hxd hdv hdrl hlo hhi hl hil h48
      go_wp2_with fail
      refine C3.out.mono ?_
      rintro e w2 ⟨T, rfl, ok, nb⟩
      have hB := hB.trans (nb.mono hB.size)
      obtain ⟨B, hBe⟩ : ∃ B : ByteArray, (⟨T.toArray⟩ : ByteArray) = B := ⟨_, rfl⟩
      have hBT : B.data.toList = T := by rw [← hBe]
      rw [hBe]
      rcases HSC.out T ok with ⟨hTl, hw, hTd⟩ | ⟨hTl, hw, hTd⟩
      · have hBs : B.size = p + 1 := by rw [← ba_len, hBT]; exact hTl
        have hle : ¬ (p : Int) + 1 < (B.size : Int) := by omega
        have hBb : B.size ≤ 4000 := by omega
        have HW := Lib.hid hw
        have HTD := Lib.hid hTd
        have HBE := Lib.hid hBe
        clear ok nb hw hTd hBe hBT hTl hBs
        go_wp2_with fail
        go_ret3
        refine ⟨(l1 : Int) - 1 - (i : Int), pv T, ?_, HW, hB⟩
        rw [← HTD.out, HBE.out]
        rfl
      · have hBs : B.size = p + 2 := by rw [← ba_len, hBT]; exact hTl
        have hle : (p : Int) + 1 < (B.size : Int) := by omega
        have hBb : B.size ≤ 4000 := by omega
        have HW := Lib.hid hw
        have hex : (B.extract 0 (p + 1)) = ⟨(decs (10 ^ p)).toArray⟩ := by
          rw [← hTd, ← hBT]
          apply ByteArray.ext
          apply Array.ext'
          rw [Lib.extract_data, List.drop_zero, Nat.sub_zero]
        have HEX := Lib.hid hex
        have g5 : (p : Int) + 1 ≤ (B.size : Int) := by omega
        clear ok nb hw hTd hBe hBT hTl hBs hex
        go_wp2_with fail
        go_ret3
        refine ⟨(l1 : Int) - 1 - (i : Int) + 1, 10 ^ p, ?_, HW, hB⟩
        rw [← HEX.out]
        rfl
end Go.Proofs.YtkjdmjglpbnmoaaGreatDoor
