/- Contracts of layer 1: the bytes of a code, in the program and in the definition. -/
import Derived.Test.YtaemijgfngdjlaaDoorUstrA
import Derived.Test.YtaemijgfngdjlaaDoorShelf
namespace Go.Proofs.YtaemijgfngdjlaaDoor
open Go.RowKit Go.Lib

/-- The bytes of a code. -/
def textB (c : Int) : ByteArray :=
  if 1114112 ≤ c ∧ c < 1114368 then ⟨#[UInt8.ofNat (c - 1114112).toNat]⟩ else if Lib.validRune c then Utf8.encode c else ⟨#[]⟩
theorem textB_byte (c : Int) (h : 1114112 ≤ c ∧ c < 1114368) : textB c = ⟨#[UInt8.ofNat (c - 1114112).toNat]⟩ := if_pos h
theorem textB_rune (c : Int) (h : Lib.validRune c = true) : textB c = Utf8.encode c := by
  unfold textB
  rw [if_neg (by simp [Lib.validRune] at h; omega), if_pos h]
theorem textB_none (c : Int) (h1 : ¬ (1114112 ≤ c ∧ c < 1114368)) (h : Lib.validRune c = false) : textB c = ⟨#[]⟩ := by
  unfold textB
  rw [if_neg h1, if_neg (by rw [h]; decide)]
theorem str_eq {a b : ByteArray} (h : a = b) : Ending.returned (.string a) = .returned (.string b) := by rw [h]

/-- 'string(b)' of a row of bytes that was just made. -/
theorem conv_new (W : World) (xs : List Int) (h : ∀ x ∈ xs, 0 ≤ x ∧ x ≤ 255) :
    (convert 51 9 (.slice (some ⟨W.heap.size, 0, none⟩) xs.length xs.length)).run Tryd.prog (W.alloc (.cells (xs.map (Value.int .u8)).toArray 5)) =
      .ok (.string ⟨(xs.map fun x => UInt8.ofNat x.toNat).toArray⟩) (W.alloc (.cells (xs.map (Value.int .u8)).toArray 5)) := by
  have := run_convert_bytes_back (P := Tryd.prog) (W.alloc (.cells (xs.map (Value.int .u8)).toArray 5)) 51 9 5 ⟨W.heap.size, 0, none⟩ xs.length (xs.map fun x => UInt8.ofNat x.toNat)
    Tryd.underlying51 Tryd.underlying5 Tryd.underlying9 (fun j hj => by
      have hj' : j < xs.length := by simpa using hj
      have hx := h xs[j] (List.getElem_mem hj')
      rw [Addr.add_lit, World.cell?_alloc_at _ _ _ _ rfl]
      simp [hj']
      omega)
  simpa using this
theorem conv_1 (W : World) (x : Int) (h : 0 ≤ x ∧ x ≤ 255) :
    (convert 51 9 (.slice (some ⟨W.heap.size, 0, none⟩) 1 1)).run Tryd.prog (W.alloc (.cells #[.int .u8 x] 5)) = .ok (.string ⟨#[UInt8.ofNat x.toNat]⟩) (W.alloc (.cells #[.int .u8 x] 5)) :=
  conv_new W [x] (by simpa using h)
theorem conv_2 (W : World) (x y : Int) (hx : 0 ≤ x ∧ x ≤ 255) (hy : 0 ≤ y ∧ y ≤ 255) :
    (convert 51 9 (.slice (some ⟨W.heap.size, 0, none⟩) 2 2)).run Tryd.prog (W.alloc (.cells #[.int .u8 x, .int .u8 y] 5)) = .ok (.string ⟨#[UInt8.ofNat x.toNat, UInt8.ofNat y.toNat]⟩) (W.alloc (.cells #[.int .u8 x, .int .u8 y] 5)) :=
  conv_new W [x, y] (by simp; exact ⟨hx, hy⟩)
theorem conv_3 (W : World) (x y z : Int) (hx : 0 ≤ x ∧ x ≤ 255) (hy : 0 ≤ y ∧ y ≤ 255) (hz : 0 ≤ z ∧ z ≤ 255) :
    (convert 51 9 (.slice (some ⟨W.heap.size, 0, none⟩) 3 3)).run Tryd.prog (W.alloc (.cells #[.int .u8 x, .int .u8 y, .int .u8 z] 5)) = .ok (.string ⟨#[UInt8.ofNat x.toNat, UInt8.ofNat y.toNat, UInt8.ofNat z.toNat]⟩) (W.alloc (.cells #[.int .u8 x, .int .u8 y, .int .u8 z] 5)) :=
  conv_new W [x, y, z] (by simp; exact ⟨hx, hy, hz⟩)
theorem conv_4 (W : World) (x y z u : Int) (hx : 0 ≤ x ∧ x ≤ 255) (hy : 0 ≤ y ∧ y ≤ 255) (hz : 0 ≤ z ∧ z ≤ 255) (hu : 0 ≤ u ∧ u ≤ 255) :
    (convert 51 9 (.slice (some ⟨W.heap.size, 0, none⟩) 4 4)).run Tryd.prog (W.alloc (.cells #[.int .u8 x, .int .u8 y, .int .u8 z, .int .u8 u] 5)) = .ok (.string ⟨#[UInt8.ofNat x.toNat, UInt8.ofNat y.toNat, UInt8.ofNat z.toNat, UInt8.ofNat u.toNat]⟩) (W.alloc (.cells #[.int .u8 x, .int .u8 y, .int .u8 z, .int .u8 u] 5)) :=
  conv_new W [x, y, z, u] (by simp; exact ⟨hx, hy, hz, hu⟩)

set_option maxRecDepth 100000 in
set_option maxHeartbeats 1000000 in
theorem text_any (c : Int) (w : World) (hc : -9223372036854775808 ≤ c ∧ c ≤ 9223372036854775807) :
    Calls Tryd.prog 14 #[.int .i64 c] w fun e w' => e = .returned (.string (textB c)) ∧ Below w.heap.size w w' := by
  by_cases h1 : c < 0
  · rw [textB_none c (by omega) (by simp [Lib.validRune]; omega)]
    go_enter Tryd.func14, Tryd.ntmps14
    go_wp2
    go_ret
    exact ⟨rfl, Below.refl _ _⟩
  by_cases h2 : 1114367 < c
  · rw [textB_none c (by omega) (by simp [Lib.validRune]; omega)]
    go_enter Tryd.func14, Tryd.ntmps14
    go_wp2
    go_ret
    exact ⟨rfl, Below.refl _ _⟩
  by_cases h3 : 1114112 ≤ c
  · rw [textB_byte c (by omega)]
    have hcv := conv_1 w (c - 1114112) (by omega)
    go_enter Tryd.func14, Tryd.ntmps14
    go_wp2
    go_ret
    exact ⟨rfl, (Below.refl _ _).alloc (Nat.le_refl _) _⟩
  have cV := Tryd.utf8_ValidRune c w
  by_cases h4 : Lib.validRune c = true
  · rw [textB_rune c h4]
    rw [h4] at cV
    have CV := Lib.hid cV; clear cV h4
    go_enter Tryd.func14, Tryd.ntmps14
    go_wp2_with (go_at_call 33; refine CV.out.mono ?_; rintro e w' ⟨rfl, rfl⟩)
    go_ret
    exact ⟨rfl, Below.refl _ _⟩
  · have h4' : Lib.validRune c = false := by simpa using h4
    rw [textB_none c (by omega) h4']
    rw [h4'] at cV
    have CV := Lib.hid cV; clear cV h4 h4'
    go_enter Tryd.func14, Tryd.ntmps14
    go_wp2_with (go_at_call 33; refine CV.out.mono ?_; rintro e w' ⟨rfl, rfl⟩)
    go_ret
    exact ⟨rfl, Below.refl _ _⟩

theorem valid_of (c : Int) (h : Lib.validRune c = true) : Utf8.valid c = true := by
  simp only [Lib.validRune, decide_eq_true_eq] at h
  simp only [Utf8.valid, Bool.or_eq_true, Bool.and_eq_true, decide_eq_true_eq]
  omega
theorem enc_1 (c : Int) (h : Lib.validRune c = true) (h1 : c < 128) : Utf8.encode c = ⟨#[UInt8.ofNat c.toNat]⟩ := by
  unfold Utf8.encode
  simp only [valid_of c h, if_true]
  rw [if_pos (by omega)]
theorem enc_2 (c : Int) (h : Lib.validRune c = true) (h0 : 128 ≤ c) (h1 : c < 2048) : Utf8.encode c = ⟨#[UInt8.ofNat (192 + c / 64).toNat, UInt8.ofNat (128 + c % 64).toNat]⟩ := by
  unfold Utf8.encode
  simp only [valid_of c h, if_true]
  rw [if_neg (by omega), if_pos (by omega), show (192 + c / 64).toNat = 0xC0 + c.toNat / 64 by omega, show (128 + c % 64).toNat = 0x80 + c.toNat % 64 by omega]
theorem enc_3 (c : Int) (h : Lib.validRune c = true) (h0 : 2048 ≤ c) (h1 : c < 65536) : Utf8.encode c = ⟨#[UInt8.ofNat (224 + c / 4096).toNat, UInt8.ofNat (128 + c / 64 % 64).toNat, UInt8.ofNat (128 + c % 64).toNat]⟩ := by
  unfold Utf8.encode
  simp only [valid_of c h, if_true]
  rw [if_neg (by omega), if_neg (by omega), if_pos (by omega), show (224 + c / 4096).toNat = 0xE0 + c.toNat / 4096 by omega, show (128 + c / 64 % 64).toNat = 0x80 + c.toNat / 64 % 64 by omega, show (128 + c % 64).toNat = 0x80 + c.toNat % 64 by omega]
theorem enc_4 (c : Int) (h : Lib.validRune c = true) (h0 : 65536 ≤ c) : Utf8.encode c = ⟨#[UInt8.ofNat (240 + c / 262144).toNat, UInt8.ofNat (128 + c / 4096 % 64).toNat, UInt8.ofNat (128 + c / 64 % 64).toNat, UInt8.ofNat (128 + c % 64).toNat]⟩ := by
  unfold Utf8.encode
  simp only [valid_of c h, if_true]
  rw [if_neg (by omega), if_neg (by omega), if_neg (by omega), show (240 + c / 262144).toNat = 0xF0 + c.toNat / 262144 by omega, show (128 + c / 4096 % 64).toNat = 0x80 + c.toNat / 4096 % 64 by omega, show (128 + c / 64 % 64).toNat = 0x80 + c.toNat / 64 % 64 by omega, show (128 + c % 64).toNat = 0x80 + c.toNat % 64 by omega]

set_option maxRecDepth 100000 in
set_option maxHeartbeats 1000000 in
theorem refText_any (c : Int) (w : World) :
    Calls Tryd.prog 15 #[.int .i64 c] w fun e w' => e = .returned (.string (textB c)) ∧ Below w.heap.size w w' := by
  by_cases h1 : c < 0
  · rw [textB_none c (by omega) (by simp [Lib.validRune]; omega)]
    go_enter Tryd.func15, Tryd.ntmps15
    go_wp2
    go_ret
    exact ⟨rfl, Below.refl _ _⟩
  by_cases h2 : 1114368 ≤ c
  · rw [textB_none c (by omega) (by simp [Lib.validRune]; omega)]
    go_enter Tryd.func15, Tryd.ntmps15
    go_wp2
    go_ret
    exact ⟨rfl, Below.refl _ _⟩
  by_cases h3 : 1114112 ≤ c
  · rw [textB_byte c (by omega)]
    have hcv := conv_1 w (c - 1114112) (by omega)
    go_enter Tryd.func15, Tryd.ntmps15
    go_wp2
    go_ret
    exact ⟨rfl, (Below.refl _ _).alloc (Nat.le_refl _) _⟩
  by_cases h4 : 55296 ≤ c ∧ c ≤ 57343
  · obtain ⟨h4, h5⟩ := h4
    rw [textB_none c (by omega) (by simp [Lib.validRune]; omega)]
    go_enter Tryd.func15, Tryd.ntmps15
    go_wp2
    go_ret
    exact ⟨rfl, Below.refl _ _⟩
  have hv : Lib.validRune c = true := by simp only [Lib.validRune, decide_eq_true_eq]; omega
  rw [textB_rune c hv]
  by_cases h5 : c < 128
  · rw [enc_1 c hv h5]
    have hcv := conv_1 w c (by omega)
    clear hv h4
    go_enter Tryd.func15, Tryd.ntmps15
    go_wp2
    go_ret
    exact ⟨rfl, (Below.refl _ _).alloc (Nat.le_refl _) _⟩
  by_cases h6 : c < 2048
  · rw [enc_2 c hv (by omega) h6]
    have hcv := conv_2 w (192 + c / 64) (128 + c % 64) (by omega) (by omega)
    clear hv h4
    go_enter Tryd.func15, Tryd.ntmps15
    go_wp2
    go_ret
    exact ⟨rfl, (Below.refl _ _).alloc (Nat.le_refl _) _⟩
  by_cases h7 : c < 65536
  · rw [enc_3 c hv (by omega) h7]
    have hcv := conv_3 w (224 + c / 4096) (128 + c / 64 % 64) (128 + c % 64) (by omega) (by omega) (by omega)
    clear hv
    by_cases h8 : c < 55296
    · clear h4
      go_enter Tryd.func15, Tryd.ntmps15
      go_wp2
      go_ret
      exact ⟨rfl, (Below.refl _ _).alloc (Nat.le_refl _) _⟩
    · have h9 : 57343 < c := by omega
      clear h4
      go_enter Tryd.func15, Tryd.ntmps15
      go_wp2
      go_ret
      exact ⟨rfl, (Below.refl _ _).alloc (Nat.le_refl _) _⟩
  · rw [enc_4 c hv (by omega)]
    have hcv := conv_4 w (240 + c / 262144) (128 + c / 4096 % 64) (128 + c / 64 % 64) (128 + c % 64) (by omega) (by omega) (by omega) (by omega)
    clear hv h4
    go_enter Tryd.func15, Tryd.ntmps15
    go_wp2
    go_ret
    exact ⟨rfl, (Below.refl _ _).alloc (Nat.le_refl _) _⟩
end Go.Proofs.YtaemijgfngdjlaaDoor
