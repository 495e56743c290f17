/- Contracts of layer 2: isDigits, Parse. -/
import Derived.WalkSpells
import Derived.WalkLawsBesides
import Derived.Test.YtflnackpkcldjaaDoorNatJ
import Derived.Test.YtflnackpkcldjaaDoorNatD
namespace Go.Proofs.YtflnackpkcldjaaDoor
open Go.RowKit Go.Lib

theorem ba_len (s : ByteArray) : s.data.toList.length = s.size := Array.length_toList
theorem ba_take_snoc (s : ByteArray) (k : Nat) (h : k < s.size) : s.data.toList.take (k + 1) = s.data.toList.take k ++ [s[k]] := by
  rw [List.take_succ_eq_append_getElem (by rw [ba_len]; exact h)]; rfl
theorem ba_nil {s : ByteArray} (h : s.size = 0) : s.data.toList = [] := List.eq_nil_of_length_eq_zero (by rw [ba_len]; exact h)
theorem dec_snoc {l : List UInt8} {c : UInt8} (h : Dec l) (hc : 48 ≤ c.toNat ∧ c.toNat ≤ 57) : Dec (l ++ [c]) := dec_append.2 ⟨h, fun x hx => by rw [List.mem_singleton] at hx; rw [hx]; exact hc⟩
theorem dec_at {s : ByteArray} (h : Dec s.data.toList) (k : Nat) (hk : k < s.size) : 48 ≤ s[k].toNat ∧ s[k].toNat ≤ 57 := h _ (by
  have : s[k] = s.data.toList[k]'(by rw [ba_len]; exact hk) := rfl
  rw [this]
  exact List.getElem_mem _)

/-- Is it one decimal digit or more? -/
noncomputable def isDec (s : ByteArray) : Bool := @decide (0 < s.size ∧ Dec s.data.toList) (Classical.propDecidable _)
theorem isDec_iff {s : ByteArray} : isDec s = true ↔ 0 < s.size ∧ Dec s.data.toList := by
  unfold isDec
  exact @decide_eq_true_iff _ (Classical.propDecidable _)
theorem isDec_no {s : ByteArray} : isDec s = false ↔ ¬ (0 < s.size ∧ Dec s.data.toList) := by
  unfold isDec
  exact @decide_eq_false_iff_not _ (Classical.propDecidable _)

set_option maxRecDepth 100000 in
set_option maxHeartbeats 1000000 in
theorem isDigits_any (s : ByteArray) (w : World) (hs : s.size ≤ 4194304) :
    Calls Tryd.prog 47 #[.string s] w fun e w' => e = .returned (.bool (isDec s)) ∧ w = w' := by
  go_enter Tryd.func47, Tryd.ntmps47
  go_wp2
  go_loop [6] (fun i => ∃ k : Nat, k ≤ s.size ∧ i = .int .i64 k ∧ Dec (s.data.toList.take k)) (fun i => s.size - (RowKit.intOf i).toNat)
  case atStart => exact ⟨0, Nat.zero_le _, rfl, fun _ h => by simp at h⟩
  case round =>
    obtain ⟨k, hk, rfl, hd⟩ := hrel
    by_cases hlt : k < s.size
    · by_cases h1 : s[k].toNat < 48
      · have HR := Lib.hid (show isDec s = false from isDec_no.2 (fun h => by have := (dec_at h.2 k hlt).1; omega))
        clear hd
        go_wp2
        go_ret
        exact ⟨by rw [HR.out]; rfl, rfl⟩
      · by_cases h2 : 57 < s[k].toNat
        · have HR := Lib.hid (show isDec s = false from isDec_no.2 (fun h => by have := (dec_at h.2 k hlt).2; omega))
          clear hd
          go_wp2
          go_ret
          exact ⟨by rw [HR.out]; rfl, rfl⟩
        · have hd2 := dec_snoc hd (show 48 ≤ s[k].toNat ∧ s[k].toNat ≤ 57 by omega)
          rw [← ba_take_snoc s k hlt] at hd2
          have HD := Lib.hid hd2
          clear hd hd2
          go_wp2
          go_round
          case rel => exact ⟨k + 1, hlt, by go_num, HD.out⟩
          case measure => simp [RowKit.intOf]; omega
    · obtain rfl : k = s.size := by omega
      rw [← ba_len, List.take_length] at hd
      by_cases h0 : s.size = 0
      · have HR := Lib.hid (show isDec s = false from isDec_no.2 (fun h => by omega))
        have he : s.toList = [] := by rw [Lib.toList_data]; exact ba_nil h0
        have he2 : s.toList.isEmpty = true := by rw [he]; rfl
        clear hd h0
        go_wp2
        go_ret
        exact ⟨by rw [HR.out]; rfl, rfl⟩
      · have HR := Lib.hid (show isDec s = true from isDec_iff.2 ⟨by omega, hd⟩)
        have he2 : s.toList.isEmpty = false := by
          rw [Lib.toList_data]
          cases h : s.data.toList with
          | nil => exact absurd (by rw [← ba_len, h]; rfl) h0
          | cons _ _ => rfl
        have he3 : ¬ s.toList = [] := by
          intro e; rw [e] at he2; cases he2
        clear hd h0
        go_wp2
        go_ret
        exact ⟨by rw [HR.out]; rfl, rfl⟩
end Go.Proofs.YtflnackpkcldjaaDoor
