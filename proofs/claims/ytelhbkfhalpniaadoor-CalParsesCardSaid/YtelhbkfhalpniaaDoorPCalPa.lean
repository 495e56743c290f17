/- Contracts of layer 13: strings.IndexAny at the blanks, whatever the text. -/
import Derived.Laws.RangeAny
import Derived.Laws.Runes
import Derived.Lib.DecodeN
import Derived.Test.YtelhbkfhalpniaaDoorQt1
import Derived.Test.YtelhbkfhalpniaaDoorQt2
import Derived.Test.YtelhbkfhalpniaaDoorQt3
import Derived.Test.YtelhbkfhalpniaaDoorQt4
import Derived.Test.YtelhbkfhalpniaaDoorQt5
namespace Go.Proofs.YtelhbkfhalpniaaDoor
open Go.RowKit Go.Lib Go.Joins

/-- What a decoded code is, and that the bytes of one that is not ASCII are not either. -/
theorem decodeN_high (n b0 b1 b2 b3 : Nat) (h : 128 ≤ b0) (hn : 1 ≤ n) : 128 ≤ (decodeN n b0 b1 b2 b3).1 ∧ ((decodeN n b0 b1 b2 b3).1 < 55296 ∨ (57344 ≤ (decodeN n b0 b1 b2 b3).1 ∧ (decodeN n b0 b1 b2 b3).1 ≤ 1114111)) ∧ 1 ≤ (decodeN n b0 b1 b2 b3).2 ∧ (decodeN n b0 b1 b2 b3).2 ≤ n ∧ (decodeN n b0 b1 b2 b3).2 ≤ 4 ∧ (1 < (decodeN n b0 b1 b2 b3).2 → 128 ≤ b1) ∧ (2 < (decodeN n b0 b1 b2 b3).2 → 128 ≤ b2) ∧ (3 < (decodeN n b0 b1 b2 b3).2 → 128 ≤ b3) := by
  unfold decodeN
  repeat' split
  all_goals (simp only; omega)
/-- The bytes of a code that is not ASCII. -/
theorem enc_shape (c : Nat) (h : 128 ≤ c) (hv : c < 55296 ∨ (57344 ≤ c ∧ c ≤ 1114111)) : (∃ a b : UInt8, Utf8.encode (c : Int) = ⟨#[a, b]⟩ ∧ 128 ≤ b.toNat) ∨ (∃ a b d : UInt8, Utf8.encode (c : Int) = ⟨#[a, b, d]⟩ ∧ 128 ≤ d.toNat) ∨ (∃ a b d e : UInt8, Utf8.encode (c : Int) = ⟨#[a, b, d, e]⟩ ∧ 128 ≤ e.toNat) := by
  have hval : Utf8.valid (c : Int) = true := by
    unfold Utf8.valid
    simp only [Bool.or_eq_true, Bool.and_eq_true, decide_eq_true_eq]
    omega
  have hl : 128 ≤ (UInt8.ofNat (128 + c % 64)).toNat := by
    rw [UInt8.toNat_ofNat']
    omega
  unfold Utf8.encode
  simp only [hval, if_true, Int.toNat_natCast]
  rw [if_neg (by omega)]
  split
  · exact Or.inl ⟨_, _, rfl, hl⟩
  · split
    · exact Or.inr (Or.inl ⟨_, _, _, rfl, hl⟩)
    · exact Or.inr (Or.inr ⟨_, _, _, _, rfl, hl⟩)
set_option maxRecDepth 100000 in
set_option maxHeartbeats 2000000 in
theorem validRune_yes (c : Nat) (w : World) (hv : c < 55296 ∨ (57344 ≤ c ∧ c ≤ 1114111)) : Calls Tryd.prog 54 #[.int .i32 (c : Int)] w fun e w' => e = .returned (.bool true) ∧ w = w' := by
  rcases hv with h | ⟨h1, h2⟩
  · have t1 : (c : Int) < 55296 := by omega
    have t0 : (0 : Int) ≤ (c : Int) := by omega
    go_enter Tryd.func54, Tryd.ntmps54
    go_wp2_with fail
    go_ret
    exact ⟨rfl, rfl⟩
  · have t1 : ¬ (c : Int) < 55296 := by omega
    have t0 : (0 : Int) ≤ (c : Int) := by omega
    have t2 : (57343 : Int) < (c : Int) := by omega
    have t3 : (c : Int) ≤ 1114111 := by omega
    go_enter Tryd.func54, Tryd.ntmps54
    go_wp2_with fail
    go_ret
    exact ⟨rfl, rfl⟩
theorem below_iter (w : World) (s : ByteArray) (i : Nat) : Below w.heap.size w (w.iter s i) := below_alloc1 w _
set_option maxRecDepth 100000 in
set_option maxHeartbeats 4000000 in
theorem indexRune_err (w : World) : Calls Tryd.prog 38 #[.string blanksB, .int .i32 65533] w fun e w' => e = .returned (.int .i64 (-1)) ∧ Below w.heap.size w w' := by
  have n0 := fun ty => run_next_ascii (P := Tryd.prog) w blanksB 0 ty (by decide) (by decide)
  have n1 := fun ty => run_next_ascii (P := Tryd.prog) w blanksB 1 ty (by decide) (by decide)
  have n2 := fun ty => run_next_ascii (P := Tryd.prog) w blanksB 2 ty (by decide) (by decide)
  have n3 := fun ty => run_next_end (P := Tryd.prog) w blanksB 3 ty (by decide)
  rw [show (((blanksB[0]'(by decide)).toNat : Nat) : Int) = 32 from rfl] at n0
  rw [show (((blanksB[1]'(by decide)).toNat : Nat) : Int) = 9 from rfl] at n1
  rw [show (((blanksB[2]'(by decide)).toNat : Nat) : Int) = 10 from rfl] at n2
  obtain ⟨B, hB⟩ : ∃ B, blanksB = B := ⟨_, rfl⟩
  rw [hB] at n0 n1 n2 n3 ⊢
  clear hB
  go_enter Tryd.func38, Tryd.ntmps38
  go_wp2_with fail
  go_loopg [5, 6] 3 (fun g _ _ wx => ∃ i : Nat, i + g = 3 ∧ wx = w.iter B i)
  case atStart => exact ⟨0, by omega, rfl⟩
  case round =>
    obtain ⟨i, hig, rfl⟩ := hrel
    cases gk with
    | zero =>
      obtain rfl : i = 3 := by omega
      go_wp2_with fail
      go_ret
      exact ⟨rfl, below_iter w B 3⟩
    | succ g =>
      rcases (by omega : i = 0 ∨ i = 1 ∨ i = 2) with rfl | rfl | rfl
      · go_wp2_with fail
        go_roundg g
        case measure => omega
        case rel => exact ⟨1, by omega, rfl⟩
      · go_wp2_with fail
        go_roundg g
        case measure => omega
        case rel => exact ⟨2, by omega, rfl⟩
      · go_wp2_with fail
        go_roundg g
        case measure => omega
        case rel => exact ⟨3, by omega, rfl⟩
theorem idx_miss {b : UInt8} (h : 128 ≤ b.toNat) : Lib.indexByte [10] b = -1 := by
  have : ((10 : UInt8) == b) = false := by
    rw [beq_eq_false_iff_ne]
    intro e
    rw [← e] at h
    exact absurd h (by decide)
  simp [Lib.indexByte, this]
set_option maxRecDepth 100000 in
set_option maxHeartbeats 4000000 in
theorem indexRune_high (c : Nat) (w : World) (h : 128 ≤ c) (hv : c < 55296 ∨ (57344 ≤ c ∧ c ≤ 1114111)) (hne : c ≠ 65533) : Calls Tryd.prog 38 #[.string blanksB, .int .i32 (c : Int)] w fun e w' => e = .returned (.int .i64 (-1)) ∧ Below w.heap.size w w' := by
  have CV := Lib.hid (fun W => validRune_yes c W hv)
  have t1 : ¬ (c : Int) < 128 := by omega
  have t2 : ((c : Int) == 65533) = false := by rw [beq_eq_false_iff_ne]; omega
  have t0 : (0 : Int) ≤ (c : Int) := by omega
  have w2 : IntKind.i64.wrap 2 = 2 := by decide
  have w3 : IntKind.i64.wrap 3 = 3 := by decide
  have hcv : ∀ W, (convert 21 9 (.int .i32 (c : Int))).run Tryd.prog W = .ok (.string (Utf8.encode (c : Int))) W := fun W => run_convert_int_string W 21 9 .i32 (c : Int) (by rw [Tryd.underlying21]; rfl) Tryd.underlying9
  unfold blanksB
  rcases enc_shape c h hv with ⟨a, b, he, hb⟩ | ⟨a, b, d, he, hb⟩ | ⟨a, b, d, e, he, hb⟩
  · rw [he] at hcv
    have CB := fun (W : World) => Tryd.strings_IndexByte ⟨#[10]⟩ (b.toNat : Int) W
    have hbb : ((b.toNat : Nat) : Int).toNat.toUInt8 = b := by simp
    rw [hbb, show Lib.indexByte (⟨#[10]⟩ : ByteArray).data.toList b = -1 from idx_miss hb] at CB
    have CB := Lib.hid CB
    have x1 : ((⟨#[32, 9, 10]⟩ : ByteArray)[1]'(by decide)).toNat = 9 := rfl
    have x2 : ((⟨#[a, b]⟩ : ByteArray)[1]'(show 1 < 2 by decide)).toNat = b.toNat := rfl
    have h9 : ((9 : Int) != (b.toNat : Int)) = true := by simp only [bne_iff_ne, ne_eq]; omega
    clear he h hv hne hbb
    go_enter Tryd.func38, Tryd.ntmps38
    go_wp2_with fail
    refine (CV.out _).mono ?_
    rintro e w' ⟨rfl, rfl⟩
    go_wp2_with fail
    go_step3
    go_wp2_with fail
    go_loopw [9] (fun j wr => j = .int .i64 1 ∧ wr = w) (fun _ _ => 0)
    case atStart => exact ⟨rfl, rfl⟩
    case round =>
      obtain ⟨rfl, rfl⟩ := hrel
      go_wp2_with fail
      go_step3
      go_wp2_with fail
      go_quiet (fail)
      go_wp2_with fail
      go_quiet ((go_at_call 53; refine (CB.out _).mono ?_; rintro e w' ⟨rfl, rfl⟩; exact ⟨rfl, _, rfl⟩))
      go_wp2_with fail
      simp +zetaDelta only [Exit.noGoto, Exit.inBlock, Exit.then]
      go_ret
      exact ⟨rfl, (Below.refl _ _).trans (below_draws _ _ _)⟩
  · rw [he] at hcv
    have CB := fun (W : World) => Tryd.strings_IndexByte ⟨#[]⟩ (d.toNat : Int) W
    have hbb : ((d.toNat : Nat) : Int).toNat.toUInt8 = d := by simp
    rw [hbb, show Lib.indexByte (⟨#[]⟩ : ByteArray).data.toList d = -1 from rfl] at CB
    have CB := Lib.hid CB
    have x1 : ((⟨#[32, 9, 10]⟩ : ByteArray)[2]'(by decide)).toNat = 10 := rfl
    have x2 : ((⟨#[a, b, d]⟩ : ByteArray)[2]'(show 2 < 3 by decide)).toNat = d.toNat := rfl
    have h9 : ((10 : Int) != (d.toNat : Int)) = true := by simp only [bne_iff_ne, ne_eq]; omega
    clear he h hv hne hbb
    go_enter Tryd.func38, Tryd.ntmps38
    go_wp2_with fail
    refine (CV.out _).mono ?_
    rintro e w' ⟨rfl, rfl⟩
    go_wp2_with fail
    go_step3
    go_wp2_with fail
    go_loopw [9] (fun j wr => j = .int .i64 2 ∧ wr = w) (fun _ _ => 0)
    case atStart => exact ⟨rfl, rfl⟩
    case round =>
      obtain ⟨rfl, rfl⟩ := hrel
      go_wp2_with fail
      go_step3
      go_wp2_with fail
      go_quiet (fail)
      go_wp2_with fail
      go_quiet ((go_at_call 53; refine (CB.out _).mono ?_; rintro e w' ⟨rfl, rfl⟩; exact ⟨rfl, _, rfl⟩))
      go_wp2_with fail
      simp +zetaDelta only [Exit.noGoto, Exit.inBlock, Exit.then]
      go_ret
      exact ⟨rfl, (Below.refl _ _).trans (below_draws _ _ _)⟩
  · rw [he] at hcv
    clear he h hv hne
    go_enter Tryd.func38, Tryd.ntmps38
    go_wp2_with fail
    refine (CV.out _).mono ?_
    rintro e w' ⟨rfl, rfl⟩
    go_wp2_with fail
    go_step3
    go_wp2_with fail
    go_loopw [9] (fun j wr => j = .int .i64 3 ∧ wr = w) (fun _ _ => 0)
    case atStart => exact ⟨rfl, rfl⟩
    case round =>
      obtain ⟨rfl, rfl⟩ := hrel
      go_wp2_with fail
      simp only [Exit.noGoto, Exit.inBlock]
      go_ret
      exact ⟨rfl, Below.refl _ _⟩
end Go.Proofs.YtelhbkfhalpniaaDoor
