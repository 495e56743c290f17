/- Layer 1: the contract of the definition's Index. -/
import Derived.Deep.QuietTactic
import Derived.BigQuiet
import Derived.Test.YtaemijgfngdjlaaDoorUstrIx
import Derived.Test.YtaemijgfngdjlaaDoorUstrS
namespace Go.Proofs.YtaemijgfngdjlaaDoor
open Go.RowKit Go.Lib

theorem idx_unique {s t : ByteArray} {b : Bool} {r q : Nat} (h : IsIdx s t b r) (h' : IsIdx s t b q) : r = q := by
  rcases h with ⟨rfl, h1⟩ | ⟨ht, k, rfl, hk, hs, hn⟩
  · rcases h' with ⟨rfl, _⟩ | ⟨ht', k', rfl, hk', hs', _⟩
    · rfl
    · rcases h1 with h1 | h1
      · omega
      · exact absurd hs' (h1 k' hk')
  · rcases h' with ⟨rfl, h1⟩ | ⟨ht', k', rfl, hk', hs', hn'⟩
    · rcases h1 with h1 | h1
      · omega
      · exact absurd hs (h1 k hk)
    · rcases Nat.lt_trichotomy k k' with h | h | h
      · exact absurd hs (hn' k h)
      · rw [h]
      · exact absurd hs' (hn k' h)
theorem stands_ext (s t : ByteArray) (p : Nat) (h : p + t.size ≤ s.size) : Stands s t p ↔ (s.extract p (p + t.size)).toList = t.toList := by
  rw [Lib.toList_data, Lib.toList_data, Lib.extract_data, Nat.add_sub_cancel_left]
  exact ⟨fun h1 => h1.2, fun h1 => ⟨h, h1⟩⟩

set_option maxRecDepth 100000 in
set_option maxHeartbeats 2000000 in
theorem refIndex_any (s t : ByteArray) (b : Bool) (w : World) (hs : s.size ≤ 1048576) (hts : t.size ≤ 1048576) :
    Calls Tryd.prog 25 #[.string s, .string t, .bool b] w fun e w' => IdxRet s t b e ∧ Below w.heap.size w w' := by
  have CS := Lib.hid (starts_row s b w hs)
  have hcl := cnt_le s b
  by_cases h0 : t.size = 0
  · have he : t.toList = [] := by
      rw [Lib.toList_data]
      exact List.eq_nil_of_length_eq_zero (by rw [← Lib.size_eq]; exact h0)
    have he2 : t.toList.isEmpty = true := by rw [he]; rfl
    have HI := Lib.hid (show IdxRet s t b (.returned (.int .i64 (0 : Nat))) from ⟨0, rfl, .inl ⟨rfl, .inl h0⟩⟩)
    clear h0
    go_enter Tryd.func25, Tryd.ntmps25
    go_wp2_with fail
    refine CS.out.mono ?_
    rintro e w1 ⟨g, cap, rfl, hcap, hg, hc, hB⟩
    clear hc CS
    go_wp2
    refine wp_loop_rounds 1 ?_
    rw [rounds_succ]
    by_cases hz : 0 < cnt s b
    · go_wp2
      go_ret
      exact ⟨HI.out, hB⟩
    · go_wp2
      go_ret
      exact ⟨HI.out, hB⟩
  have he2 : t.toList.isEmpty = false := by
    rw [Lib.toList_data]
    cases h : t.data.toList with
    | nil => exact absurd (by rw [Lib.size_eq, h]; rfl) h0
    | cons _ _ => rfl
  have he3 : ¬ t.toList = [] := by
    intro e; rw [e] at he2; cases he2
  have hpos : 0 < t.size := by omega
  clear h0
  go_enter Tryd.func25, Tryd.ntmps25
  go_wp2_with fail
  refine CS.out.mono ?_
  rintro e w1 ⟨g, cap, rfl, hcap, hg, hc, hB⟩
  have HC := Lib.hid hc
  clear hc CS
  go_wp2
  go_loopw [8] (fun i wr => ∃ k n : Nat, k ≤ cnt s b ∧ i = .int .i64 k ∧ (∀ j, j < k → ¬ Stands s t (pl s b j)) ∧ wr = w1.drewN n) (fun i _ => cnt s b - (RowKit.intOf i).toNat)
  case atStart => exact ⟨0, 0, Nat.zero_le _, rfl, fun j h => absurd h (Nat.not_lt_zero _), rfl⟩
  case round =>
    obtain ⟨k, n, hk, rfl, hn, rfl⟩ := hrel
    have HN := Lib.hid hn
    clear hn
    by_cases hlt : k < cnt s b
    · have hc : w1.cell? ⟨g, k, none⟩ = some (.int .i64 (pl s b k)) := HC.out k (by omega)
      have hpl := pl_le s b k
      obtain ⟨p, hp⟩ : ∃ p, pl s b k = p := ⟨_, rfl⟩
      rw [hp] at hc hpl
      have HP := Lib.hid hp
      clear hp
      have s1 : IntKind.i64.wrap ((s.size : Int) - (p : Int)) = (s.size : Int) - (p : Int) := IntWalk.i64_in _ (by omega)
      have s2 : IntKind.i64.wrap ((p : Int) + (t.size : Int)) = (p : Int) + (t.size : Int) := IntWalk.i64_in _ (by omega)
      have s3 : ((p : Int) + (t.size : Int)).toNat = p + t.size := by omega
      have s4 : (k : Int) < (cnt s b : Int) + 1 := by omega
      have s5 : (p : Int) ≤ (p : Int) + (t.size : Int) := by omega
      by_cases hfit : p + t.size ≤ s.size
      · have f1 : decide ((t.size : Int) ≤ (s.size : Int) - (p : Int)) = true := by simp; omega
        have f2 : (p : Int) + (t.size : Int) ≤ (s.size : Int) := by omega
        by_cases hst : Stands s t p
        · have e1 : ((s.extract p (p + t.size)).toList == t.toList) = true := by rw [beq_iff_eq]; exact (stands_ext s t p hfit).1 hst
          have HI := Lib.hid (show IdxRet s t b (.returned (.int .i64 ((k + 1 : Nat) : Int))) from ⟨k + 1, rfl, .inr ⟨hpos, k, rfl, hlt, by rw [HP.out]; exact hst, HN.out⟩⟩)
          clear hst
          go_wp2
          go_quiet (fail)
          clear s1 s2 s3
          go_wp2
          go_ret
          exact ⟨by have := HI.out; simpa using this, below_drewN hB _⟩
        · have e1 : ((s.extract p (p + t.size)).toList == t.toList) = false := by rw [beq_eq_false_iff_ne]; exact fun e => hst ((stands_ext s t p hfit).2 e)
          have HST := Lib.hid hst
          clear hst
          go_wp2
          go_quiet (fail)
          clear s1 s2 s3
          go_wp2
          go_roundw
          case rel => exact ⟨k + 1, _, hlt, by go_num, fun j hj => by
            by_cases e : j = k
            · subst e; rw [HP.out]; exact HST.out
            · exact HN.out j (by omega), rfl⟩
          case measure => simp [RowKit.intOf]; omega
      · have f1 : decide ((t.size : Int) ≤ (s.size : Int) - (p : Int)) = false := by simp; omega
        have HST := Lib.hid (show ¬ Stands s t p from fun h => hfit h.1)
        clear hfit
        go_wp2
        go_quiet (fail)
        clear s1 s2 s3
        go_wp2
        go_roundw
        case rel => exact ⟨k + 1, _, hlt, by go_num, fun j hj => by
          by_cases e : j = k
          · subst e; rw [HP.out]; exact HST.out
          · exact HN.out j (by omega), rfl⟩
        case measure => simp [RowKit.intOf]; omega
    · obtain rfl : k = cnt s b := by omega
      have HI := Lib.hid (show IdxRet s t b (.returned (.int .i64 (0 : Nat))) from ⟨0, rfl, .inl ⟨rfl, .inr HN.out⟩⟩)
      go_wp2
      go_ret
      exact ⟨HI.out, below_drewN hB _⟩
end Go.Proofs.YtaemijgfngdjlaaDoor
