/- Contracts of layer 1: ahead. -/
import Derived.Test.YtaemijgfngdjlaaDoorUstrPl
namespace Go.Proofs.YtaemijgfngdjlaaDoor
open Go.RowKit Go.Lib Go.Shelf
attribute [local go_sem] Oper.semAt_some

def aheadZ (s : ByteArray) (b : Bool) (n : Int) : Nat := if n < 1 then 0 else if (placeZ s b n).2 then (placeZ s b n).1.toNat else s.size

set_option maxRecDepth 100000 in
set_option maxHeartbeats 2000000 in
theorem ahead_in (s : ByteArray) (n : Int) (b : Bool) (w : World) (hs : s.size ≤ 1048576) (hT : Utf8Tabs 0 1 w) :
    CallsIn Fence.wide 10 Tryd.prog 36 #[.string s, .int .i64 n, .bool b] w fun e w' => e = .returned (.int .i64 (aheadZ s b n : Nat)) ∧ Below w.heap.size w w' := by
  refine callsIn_of_wp_marks Tryd.func36 rfl trivial ?_ rfl
  simp only [Tryd.ntmps36, List.size_toArray, List.length_cons, List.length_nil, Nat.reduceAdd, Nat.reduceSub, Array.replicate_succ, Array.replicate_zero, List.push_toArray, List.append_toArray, List.nil_append, List.cons_append]
  by_cases h1 : n < 1
  · rw [aheadZ, if_pos h1]
    clear hT
    gi_wp2
    exact ⟨.int .i64 0, by simp [results, Tryd.results36, go_sem], rfl, Below.refl w.heap.size w⟩
  · have PI := Lib.hid (place_in s n b w hs hT)
    clear hT
    rw [aheadZ, if_neg h1]
    gi_wp2_with fail
    refine ⟨trivial, (callsIn_wide.2 (callsIn_wide.1 PI.out)).mono ?_⟩
    rintro e W0 ⟨rfl, hW⟩
    have HW := Lib.hid hW
    clear hW PI
    have hz : (placeZ s b n).1 = max (placeZ s b n).1 0 := by
      have : 0 ≤ (placeZ s b n).1 := by rw [placeZ]; split <;> simp
      omega
    have HZ := Lib.hid hz
    clear hz
    cases hp : (placeZ s b n).2
    · gi_wp2
      all_goals exact ⟨.int .i64 (s.size : Nat), by simp [results, Tryd.results36, go_sem], rfl, HW.out⟩
    · gi_wp2
      exact ⟨.int .i64 (placeZ s b n).1, by simp [results, Tryd.results36, go_sem], by rw [← HZ.out], HW.out⟩
end Go.Proofs.YtaemijgfngdjlaaDoor
