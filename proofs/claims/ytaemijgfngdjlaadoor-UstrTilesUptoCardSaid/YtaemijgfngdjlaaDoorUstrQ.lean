/- Layer 1: where characters begin (plain), and the contract of begins. -/
import Derived.Test.YtaemijgfngdjlaaDoorUstrO
import Derived.Test.YtaemijgfngdjlaaDoorUstrT
namespace Go.Proofs.YtaemijgfngdjlaaDoor
open Go.RowKit Go.Lib

theorem dec_bytes (n b0 b1 b2 b3 : Nat) : (2 ≤ (decodeN n b0 b1 b2 b3).2 → 192 ≤ b0 ∧ b1 / 64 = 2) ∧ (3 ≤ (decodeN n b0 b1 b2 b3).2 → b2 / 64 = 2) ∧ (4 ≤ (decodeN n b0 b1 b2 b3).2 → b3 / 64 = 2) := by
  unfold decodeN
  repeat' split
  all_goals (refine ⟨fun h => ?_, fun h => ?_, fun h => ?_⟩ <;> dsimp only at h <;> omega)
/-- A character of several bytes: what begins it, and what goes on. -/
theorem wid_bytes (s : ByteArray) (p : Nat) (hp : p < s.size) : (2 ≤ wid s false p → 192 ≤ (s.get! p).toNat) ∧ (∀ i, 1 ≤ i → i < wid s false p → (s.get! (p + i)).toNat / 64 = 2) := by
  have h := dec_bytes (s.size - p) (s.get! p).toNat (s.get! (p + 1)).toNat (s.get! (p + 2)).toNat (s.get! (p + 3)).toNat
  have h4 := wid_le4 s false p
  rw [wid_char s p hp] at h4 ⊢
  refine ⟨fun g => (h.1 g).1, fun i h1 hi => ?_⟩
  rcases (by omega : i = 1 ∨ i = 2 ∨ i = 3) with rfl | rfl | rfl
  · exact (h.1 (by omega)).2
  · exact h.2.1 (by omega)
  · exact h.2.2 (by omega)
/-- A place at which a character begins. -/
def IsStart (s : ByteArray) (b : Bool) (p : Nat) : Prop := ∃ k, k < cnt s b ∧ pl s b k = p
theorem start_iff (s : ByteArray) (p : Nat) (hp : p < s.size) : IsStart s false p ↔ ∀ q, 1 ≤ q → q < 4 → q ≤ p → wid s false (p - q) ≤ q := by
  constructor
  · rintro ⟨k, hk, rfl⟩ q h1 _ hq
    rcases Nat.lt_or_ge q (wid s false (pl s false k - q)) with h | h
    · exfalso
      obtain ⟨m, i, hm, hi, e⟩ := in_char s false (pl s false k - q) (by omega)
      have hpm := (cnt_spec s false m).2 hm
      have hlead := (wid_bytes s (pl s false k - q) (by omega)).1 (by omega)
      by_cases hi0 : i = 0
      · subst hi0
        have e2 : pl s false m = pl s false k - q := by omega
        have h3 := pl_succ s false m
        rw [e2] at h3
        rcases Nat.lt_or_ge m k with hmk | hmk
        · have := pl_mono s false (m + 1) k hmk
          omega
        · have := pl_mono s false k m hmk
          omega
      · have hc := (wid_bytes s (pl s false m) hpm).2 i (by omega) hi
        rw [← e] at hc
        have := get!_lt256 s (pl s false k - q)
        omega
    · exact h
  · intro h
    obtain ⟨m, i, hm, hi, rfl⟩ := in_char s false p hp
    have h4 := wid_le4 s false (pl s false m)
    by_cases hi0 : i = 0
    · subst hi0; exact ⟨m, hm, rfl⟩
    · have := h i (by omega) (by omega) (by omega)
      rw [Nat.add_sub_cancel] at this
      omega
theorem start_byte (s : ByteArray) (p : Nat) (hp : p < s.size) : IsStart s true p := ⟨p, by rw [cnt_byte]; exact hp, pl_byte s p (by omega)⟩

/-- What begins answers. -/
def BeginsRet (s : ByteArray) (b : Bool) (p : Nat) (e : Ending) : Prop := ∃ r : Bool, e = .returned (.bool r) ∧ (r = true ↔ IsStart s b p)

set_option maxRecDepth 100000 in
set_option maxHeartbeats 1000000 in
theorem begins_any (s : ByteArray) (p : Nat) (b : Bool) (w : World) (hp : p < s.size) (hs : s.size ≤ 4194304) (hT : Utf8Tabs 0 1 w) :
    Calls Tryd.prog 40 #[.string s, .int .i64 p, .bool b] w fun e w' => BeginsRet s b p e ∧ Below w.heap.size w w' := by
  cases b
  · have HI := Lib.hid (start_iff s p hp)
    have HT := Lib.hid hT; clear hT
    go_enter Tryd.func40, Tryd.ntmps40
    go_wp2
    go_loopw [7] (fun i wr => ∃ q : Nat, 1 ≤ q ∧ q ≤ 4 ∧ i = .int .i64 q ∧ (∀ j, 1 ≤ j → j < q → j ≤ p → wid s false (p - j) ≤ j) ∧ Below w.heap.size w wr) (fun i _ => 4 - (RowKit.intOf i).toNat)
    case atStart => exact ⟨1, Nat.le_refl _, by omega, rfl, fun j h1 h2 => by omega, Below.refl _ _⟩
    case round =>
      obtain ⟨q, hq1, hq4, rfl, hall, hB⟩ := hrel
      have HALL := Lib.hid hall; clear hall
      have HB := Lib.hid hB; clear hB
      by_cases h4 : q < 4
      · by_cases hqp : q ≤ p
        · have cN := fun (W : World) h => next_any s ((p - q : Nat) : Int) false W h (by omega)
          rw [nextZ_eq, show ((p - q : Nat) : Int) = (p : Int) - q by omega] at cN
          obtain ⟨C, hC⟩ : ∃ C, cod s false (p - q) = C := ⟨_, rfl⟩
          obtain ⟨S, hS⟩ : ∃ S, wid s false (p - q) = S := ⟨_, rfl⟩
          rw [hC, hS] at cN
          clear hC
          have CN := Lib.hid cN; clear cN
          have T := Lib.hid (tabs_below HT.out HB.out (Nat.le_refl _))
          have HS := Lib.hid hS; clear hS
          by_cases hSq : q < S
          · go_wp2_with fail
            refine (CN.out _ T.out).mono ?_
            rintro e w2 ⟨rfl, hb⟩
            go_wp2
            go_ret
            refine ⟨⟨false, rfl, ?_⟩, HB.out.trans (hb.mono HB.out.size)⟩
            simp only [Bool.false_eq_true, false_iff]
            intro h
            have := HI.out.1 h q hq1 h4 hqp
            rw [HS.out] at this
            omega
          · go_wp2_with fail
            refine (CN.out _ T.out).mono ?_
            rintro e w2 ⟨rfl, hb⟩
            go_wp2
            go_roundw
            case rel => exact ⟨q + 1, by omega, by omega, by go_num, fun j h1 h2 h3 => by
              by_cases e : j = q
              · subst e; rw [HS.out]; omega
              · exact HALL.out j h1 (by omega) h3, HB.out.trans (hb.mono HB.out.size)⟩
            case measure => simp [RowKit.intOf]; omega
        · go_wp2
          go_ret
          exact ⟨⟨true, rfl, by simp only [true_iff]; exact HI.out.2 (fun j h1 h2 h3 => HALL.out j h1 (by omega) h3)⟩, HB.out⟩
      · go_wp2
        go_ret
        exact ⟨⟨true, rfl, by simp only [true_iff]; exact HI.out.2 (fun j h1 h2 h3 => HALL.out j h1 (by omega) h3)⟩, HB.out⟩
  · have hst := Lib.hid (start_byte s p hp)
    clear hT
    go_enter Tryd.func40, Tryd.ntmps40
    go_wp2
    go_ret
    exact ⟨⟨true, rfl, by simp only [true_iff]; exact hst.out⟩, Below.refl _ _⟩
end Go.Proofs.YtaemijgfngdjlaaDoor
