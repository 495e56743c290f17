/- Contracts of layer 1: Sub. -/
import Derived.Test.YtaemijgfngdjlaaDoorUstrAh
namespace Go.Proofs.YtaemijgfngdjlaaDoor
open Go.RowKit Go.Lib Go.Shelf
attribute [local go_sem] Oper.semAt_some

theorem aheadZ_pl (s : ByteArray) (b : Bool) (n : Int) : aheadZ s b n = pl s b (min (max n 1) (cnt s b + 1) - 1).toNat := by
  unfold aheadZ
  by_cases h1 : n < 1
  · rw [if_pos h1, show (min (max n 1) ((cnt s b : Int) + 1) - 1).toNat = 0 by omega]; rfl
  rw [if_neg h1]
  by_cases h2 : n ≤ cnt s b + 1
  · have e : placeZ s b n = (((pl s b (n - 1).toNat : Nat) : Int), true) := by rw [placeZ, if_pos ⟨by omega, h2⟩]
    rw [e, show (min (max n 1) ((cnt s b : Int) + 1) - 1).toNat = (n - 1).toNat by omega]; simp
  · have e : placeZ s b n = (0, false) := by rw [placeZ, if_neg (by omega)]
    rw [e, show (min (max n 1) ((cnt s b : Int) + 1) - 1).toNat = cnt s b by omega, pl_cnt]; simp

theorem sub_ahead (s : ByteArray) (b : Bool) (i j : Int) (h : i < j) : s.extract (aheadZ s b i) (aheadZ s b j) = subB s b i j := by
  rw [aheadZ_pl, aheadZ_pl]
  unfold subB
  by_cases hc : min j ((cnt s b : Int) + 1) ≤ max i 1
  · rw [if_pos hc, show (min (max j 1) ((cnt s b : Int) + 1) - 1).toNat = (min (max i 1) ((cnt s b : Int) + 1) - 1).toNat by omega]
    apply ByteArray.ext
    simp
  · rw [if_neg hc, show (min (max j 1) ((cnt s b : Int) + 1) - 1) = (min j ((cnt s b : Int) + 1) - 1) by omega, show (min (max i 1) ((cnt s b : Int) + 1) - 1) = (max i 1 - 1) by omega]

theorem sub_none (s : ByteArray) (b : Bool) (i j : Int) (h : j ≤ i) : subB s b i j = ⟨#[]⟩ := by
  unfold subB; rw [if_pos (by omega)]

set_option maxRecDepth 100000 in
set_option maxHeartbeats 2000000 in
theorem clone_in (s : ByteArray) (w : World) (hs : s.size ≤ 1048576) :
    CallsIn Fence.wide 10 Tryd.prog 37 #[.string s] w fun e w' => e = .returned (.string s) ∧ Below w.heap.size w w' := by
  have SC := Lib.hid (Tryd.stringslite_Clone s w (by omega))
  refine callsIn_of_wp_marks Tryd.func37 rfl trivial ?_ rfl
  simp only [Tryd.ntmps37, List.size_toArray, List.length_cons, List.length_nil, Nat.reduceAdd, Nat.reduceSub, Array.replicate_succ, Array.replicate_zero, List.push_toArray, List.append_toArray, List.nil_append, List.cons_append]
  gi_wp2_with fail
  refine ⟨trivial, (callsIn_wide.2 SC.out).mono ?_⟩
  rintro e W0 ⟨rfl, hW⟩
  gi_wp2
  exact ⟨.string s, by simp [results, Tryd.results37, go_sem], rfl, hW⟩

set_option maxRecDepth 100000 in
set_option maxHeartbeats 2000000 in
theorem sub_in (s : ByteArray) (i j : Int) (b : Bool) (w : World) (hs : s.size ≤ 1048576) (hT : Utf8Tabs 0 1 w) :
    CallsIn Fence.wide 10 Tryd.prog 22 #[.string s, .int .i64 i, .int .i64 j, .bool b] w fun e w' => e = .returned (.string (subB s b i j)) ∧ Below w.heap.size w w' := by
  refine callsIn_of_wp_marks Tryd.func22 rfl trivial ?_ rfl
  simp only [Tryd.ntmps22, List.size_toArray, List.length_cons, List.length_nil, Nat.reduceAdd, Nat.reduceSub, Array.replicate_succ, Array.replicate_zero, List.push_toArray, List.append_toArray, List.nil_append, List.cons_append]
  by_cases h1 : j ≤ i
  · rw [sub_none s b i j h1]
    clear hT
    gi_wp2
    exact ⟨.string ⟨#[]⟩, by simp [results, Tryd.results22, go_sem], rfl, Below.refl w.heap.size w⟩
  · have AI := Lib.hid (fun (n : Int) (W : World) (T : Utf8Tabs 0 1 W) => ahead_in s n b W hs T)
    have HT := Lib.hid hT
    have hij : aheadZ s b i ≤ aheadZ s b j := by
      rw [aheadZ_pl, aheadZ_pl]; exact pl_mono _ _ _ _ (by omega)
    have hjs : aheadZ s b j ≤ s.size := by rw [aheadZ_pl]; exact pl_le _ _ _
    have HE := Lib.hid (sub_ahead s b i j (by omega))
    have hse : (s.extract (aheadZ s b i) (aheadZ s b j)).size ≤ 1048576 := by rw [ByteArray.size_extract]; omega
    have CL := Lib.hid (fun (W : World) => clone_in (s.extract (aheadZ s b i) (aheadZ s b j)) W hse)
    clear hT hse
    gi_wp2_with fail
    refine ⟨trivial, (callsIn_wide.2 (callsIn_wide.1 (AI.out i _ HT.out))).mono ?_⟩
    rintro e W0 ⟨rfl, hW⟩
    have HW := Lib.hid hW
    clear hW
    gi_wp2_with fail
    refine ⟨trivial, (callsIn_wide.2 (callsIn_wide.1 (AI.out j _ (tabs_below HT.out HW.out (Nat.le_refl _))))).mono ?_⟩
    rintro e W1 ⟨rfl, hW⟩
    have HW1 := Lib.hid (HW.out.trans (hW.mono HW.out.size))
    clear hW
    gi_wp2_with fail
    refine ⟨trivial, (callsIn_wide.2 (callsIn_wide.1 (CL.out _))).mono ?_⟩
    rintro e W2 ⟨rfl, hW⟩
    gi_wp2
    all_goals exact ⟨.string (s.extract (aheadZ s b i) (aheadZ s b j)), by simp [results, Tryd.results22, go_sem], by rw [HE.out], HW1.out.trans (hW.mono HW1.out.size)⟩
end Go.Proofs.YtaemijgfngdjlaaDoor
