/- Several texts in one (Trunc at any float; a whole float brought between -2000 and 2000; Contracts of a strings.Builder that lies within a struct (at any place of a block); Contracts of layer 11: the values in memory, the writer; next; The walk of the law CellTexts; Contracts of layer 11: write, amount; Contracts of layer 11: sized). -/
import Derived.Lib.Builder
import Derived.Lib.AppendStr
import Derived.Lib.UnsafeStr
import Derived.Lib.MakeNoZero
import Derived.Laws.AppendOwn
import Derived.Test.YtddfigbpckhfbaaGreatDoorQpt6
import Derived.Test.YtddfigbpckhfbaaGreatDoorQpt9
import Derived.Test.YtddfigbpckhfbaaGreatDoorQpt10
namespace Go.Proofs.YtddfigbpckhfbaaGreatDoor
open Go.RowKit Go.Lib

theorem whQ_of_V {r q : Nat} (h : V r = q * S1074) : whQ r = q ∧ isWh r = true := by
  have h2 := V_am (r := r)
  rw [h, Nat.mul_right_comm] at h2
  have h3 := Nat.eq_of_mul_eq_mul_right S_pos h2
  refine ⟨?_, ?_⟩
  · unfold whQ
    rw [← h3, Nat.mul_div_cancel _ (amD_pos r)]
  · unfold isWh
    rw [← h3, Nat.mul_mod_left]
    rfl
theorem truncR_wh {r : Nat} (h : r < 9218868437227405312) : whQ (truncR r) = whQ r ∧ isWh (truncR r) = true := by
  by_cases he : 0 ≤ expF r
  · have e : truncR r = r := by unfold truncR; rw [if_pos he]
    rw [e]
    exact ⟨rfl, (trunc_wh h).1 e⟩
  · have ha : amN r = manF r := by unfold amN; rw [show (expF r).toNat = 0 by omega, Nat.pow_zero, Nat.mul_one]
    have hq : manF r / 2 ^ (-expF r).toNat = whQ r := by unfold whQ; rw [ha]; rfl
    have hlt : whQ r < 9007199254740992 := by rw [← hq]; exact Nat.lt_of_le_of_lt (Nat.div_le_self _ _) manF_lt
    have e : truncR r = fw (whQ r) := by unfold truncR; rw [if_neg he, hq]
    rw [e]
    exact whQ_of_V (fw_V hlt)
theorem inf_wh : isWh 9218868437227405312 = true := by
  have h : (-expF 9218868437227405312).toNat = 0 := by decide +kernel
  unfold isWh amD
  rw [h, Nat.pow_zero, Nat.mod_one]
  rfl
/-- What Trunc may answer: of a number, or of what is infinite, one that is as much ahead of its point, and whole; of a NaN some NaN. -/
structure TruncOf (b t : Nat) : Prop where
  lt : t < 18446744073709551616
  fin : mag b < 9218868437227405312 → t = sgn b + truncR (mag b)
  inf : mag b = 9218868437227405312 → t = b
  nan : 9218868437227405312 < mag b → 9218868437227405312 < mag t
theorem sgn_lt (b : Nat) : sgn b = 0 ∨ sgn b = 9223372036854775808 := by unfold sgn; omega
theorem TruncOf.mag {b t : Nat} (h : TruncOf b t) (_hb : b < 18446744073709551616) (hm : mag b ≤ 9218868437227405312) : Go.Proofs.YtddfigbpckhfbaaGreatDoor.mag t ≤ 9218868437227405312 ∧ sgn t = sgn b ∧ whQ (Go.Proofs.YtddfigbpckhfbaaGreatDoor.mag t) = whQ (Go.Proofs.YtddfigbpckhfbaaGreatDoor.mag b) ∧ isWh (Go.Proofs.YtddfigbpckhfbaaGreatDoor.mag t) = true := by
  rcases Nat.lt_or_ge (Go.Proofs.YtddfigbpckhfbaaGreatDoor.mag b) 9218868437227405312 with h1 | h1
  · have e := h.fin h1
    have hl := truncR_lt h1
    have em : Go.Proofs.YtddfigbpckhfbaaGreatDoor.mag t = truncR (Go.Proofs.YtddfigbpckhfbaaGreatDoor.mag b) := by
      rw [e]
      unfold sgn
      unfold Go.Proofs.YtddfigbpckhfbaaGreatDoor.mag at hl ⊢
      omega
    have es : sgn t = sgn b := by
      rw [e]
      have := sgn_lt b
      generalize truncR (Go.Proofs.YtddfigbpckhfbaaGreatDoor.mag b) = r at *
      unfold sgn at *
      omega
    rw [em]
    exact ⟨by omega, es, truncR_wh h1⟩
  · have h2 : Go.Proofs.YtddfigbpckhfbaaGreatDoor.mag b = 9218868437227405312 := by omega
    have e := h.inf h2
    subst e
    exact ⟨hm, rfl, rfl, by rw [h2]; exact inf_wh⟩
theorem quiet_gt {s : Bool} {f : Nat} (hf : f < 4503599627370496) : 9218868437227405312 < mag (Ieee.double.write (.nan s (f ||| 2 ^ 51))) ∧ Ieee.double.write (.nan s (f ||| 2 ^ 51)) < 18446744073709551616 := by
  have h1 : f ||| 2 ^ 51 < 2 ^ 52 := Nat.or_lt_two_pow (by omega) (by omega)
  have h2 : 2 ^ 51 ≤ f ||| 2 ^ 51 := Nat.right_le_or
  show 9218868437227405312 < mag (Ieee.double.word s (Ieee.double.infRung + (f ||| 2 ^ 51) % Ieee.double.binade)) ∧ Ieee.double.word s (Ieee.double.infRung + (f ||| 2 ^ 51) % Ieee.double.binade) < _
  rw [word_sign, dbl_inf, show Ieee.double.binade = 2 ^ 52 from by decide, Nat.mod_eq_of_lt h1]
  generalize f ||| 2 ^ 51 = z at *
  unfold mag
  split <;> omega
theorem run_trunc_all (b : Nat) (hb : b < 18446744073709551616) : ∃ (φ : World → Nat) (d : Nat), (∀ W, (callFunc 78 #[.float .f64 b]).run Tryz.prog W = .ok (.value (.float .f64 (φ W))) (W.drewN d)) ∧ ∀ W, TruncOf b (φ W) := by
  rcases Nat.lt_trichotomy (mag b) 9218868437227405312 with h | h | h
  · refine ⟨fun _ => sgn b + truncR (mag b), 0, fun W => run_trunc b W hb h, fun _ => ⟨?_, fun _ => rfl, fun q => by omega, fun q => by omega⟩⟩
    have := truncR_lt h
    have := sgn_lt b
    show sgn b + truncR (mag b) < 18446744073709551616
    omega
  · refine ⟨fun _ => b, 0, fun W => ?_, fun _ => ⟨hb, fun q => by omega, fun _ => rfl, fun q => by omega⟩⟩
    rw [run_callFunc_extern Tryz.func78 (by kernel_rfl) (by kernel_rfl) (by kernel_rfl) (e := Extern.MathFloor.toIntegral "math.archTrunc" .zero) (by kernel_rfl)]
    have hd : FloatKind.f64.decode b = .infinity (b / 9223372036854775808 % 2 == 1) := read_inf h
    have h2 : FloatKind.f64.encode ((FloatKind.f64.decode b).integral .zero) = b := by
      rw [hd]
      show Ieee.double.word (b / 9223372036854775808 % 2 == 1) Ieee.double.infRung = b
      rw [word_sign, dbl_inf]
      unfold mag at h
      rcases (by omega : b / 9223372036854775808 % 2 = 0 ∨ b / 9223372036854775808 % 2 = 1) with e | e
      · rw [e, if_neg (by decide)]; omega
      · rw [e, if_pos (by decide)]; omega
    rw [trunc_step_inf b _ hd, h2]
    rfl
  · have hd : FloatKind.f64.decode b = .nan (b / 9223372036854775808 % 2 == 1) (mag b - 9218868437227405312) := read_nan h
    have hml : mag b < 9223372036854775808 := Nat.mod_lt _ (by omega)
    by_cases hq : FloatKind.f64.format.quiet (mag b - 9218868437227405312) = mag b - 9218868437227405312
    · refine ⟨fun _ => b, 0, fun W => ?_, fun _ => ⟨hb, fun q => by omega, fun _ => rfl, fun q => h⟩⟩
      rw [run_callFunc_extern Tryz.func78 (by kernel_rfl) (by kernel_rfl) (by kernel_rfl) (e := Extern.MathFloor.toIntegral "math.archTrunc" .zero) (by kernel_rfl)]
      rw [trunc_step_quiet b _ _ hd hq]
      rfl
    · refine ⟨fun W => if (Question.cut (.extern "math.Floor,Ceil,Trunc,RoundToEven.signallingNaN kept" 2) (W.tape W.drawn (.extern "math.Floor,Ceil,Trunc,RoundToEven.signallingNaN kept" 2)) == 1) = true then b else FloatKind.f64.encode (.nan (b / 9223372036854775808 % 2 == 1) (FloatKind.f64.format.quiet (mag b - 9218868437227405312))), 1, fun W => ?_, fun W => ?_⟩
      · rw [run_callFunc_extern Tryz.func78 (by kernel_rfl) (by kernel_rfl) (by kernel_rfl) (e := Extern.MathFloor.toIntegral "math.archTrunc" .zero) (by kernel_rfl)]
        rw [trunc_step_loud b _ _ hd hq]
        simp [Question.forced]
        rfl
      · have hz := quiet_gt (s := b / 9223372036854775808 % 2 == 1) (f := mag b - 9218868437227405312) (by omega)
        refine ⟨?_, fun q => by omega, fun q => by omega, fun _ => ?_⟩
        · dsimp only
          split
          · exact hb
          · exact hz.2
        · dsimp only
          split
          · exact h
          · exact hz.1
theorem trunc_all (b : Nat) (w : World) (hb : b < 18446744073709551616) : Calls Tryz.prog 41 #[.float .f64 b] w fun e w' => (∃ t, e = .returned (.float .f64 t) ∧ TruncOf b t) ∧ Below w.heap.size w w' := by
  obtain ⟨φ, d, h1, h2⟩ := run_trunc_all b hb
  have H := Lib.hid h2
  clear h2
  go_enter Tryz.func41, Tryz.ntmps41
  go_wp2
  go_ret
  exact ⟨⟨_, rfl, H.out _⟩, below_drewN (Below.refl _ _) _⟩
theorem numTrunc_all (b : Nat) (w : World) (hb : b < 18446744073709551616) : Calls Tryz.prog 16 #[.float .f64 b] w fun e w' => (∃ t, e = .returned (.float .f64 t) ∧ TruncOf b t) ∧ Below w.heap.size w w' := by
  have C := Lib.hid (trunc_all b w hb)
  go_enter Tryz.func16, Tryz.ntmps16
  go_wp2_with fail
  refine C.out.mono ?_
  rintro e w' ⟨⟨t, rfl, ht⟩, hB⟩
  have HT := Lib.hid ht
  have HB := Lib.hid hB
  clear ht hB
  go_wp2
  go_ret
  exact ⟨⟨_, rfl, HT.out⟩, HB.out⟩
/-- 2000 as a float. -/
abbrev f2k : Nat := 4656510908468559872
abbrev m2k : Nat := 13879882945323335680
def minF (t : Nat) : Nat := if sgn t = 0 ∧ f2k ≤ mag t then f2k else t
def maxF (t : Nat) : Nat := if sgn t ≠ 0 ∧ f2k ≤ mag t then m2k else t
theorem key_pos {x : Nat} (h : sgn x = 0) : keyZ x = (mag x : Int) := by
  unfold keyZ
  rw [if_neg]
  unfold sgn at h
  rw [beq_iff_eq]
  omega
theorem key_neg {x : Nat} (h : sgn x ≠ 0) : keyZ x = -(mag x : Int) := by
  unfold keyZ
  rw [if_pos]
  unfold sgn at h
  rw [beq_iff_eq]
  omega
theorem sgn_mag2 {x : Nat} (hx : x < 18446744073709551616) : x = sgn x + mag x := by unfold sgn mag; omega
theorem run_min_2k (a : Array TypeId) (ty : TypeId) (t : Nat) (ht : t < 18446744073709551616) (hm : mag t ≤ 9218868437227405312) (W : World) : (Builtin.min_ a ty #[.float .f64 t, .float .f64 f2k]).run Tryz.prog W = .ok (.float .f64 (minF t)) W := by
  have ho : FloatKind.f64.format.order t f2k = some (compare (keyZ t) (keyZ f2k)) := order_key hm (by decide)
  have kf : keyZ f2k = 4656510908468559872 := by decide
  rw [kf] at ho
  show ((Builtin.min2 (.float .f64 t) (.float .f64 f2k)) >>= fun s => pure s).run Tryz.prog W = _
  have hs := sgn_mag2 ht
  have hf2 : f2k = 4656510908468559872 := rfl
  by_cases h0 : sgn t = 0
  · rw [key_pos h0] at ho
    rcases Nat.lt_trichotomy (mag t) f2k with h | h | h
    · have e : minF t = t := by unfold minF; rw [if_neg (by omega)]
      rw [Int.compare_eq_lt.2 (by omega)] at ho
      unfold Builtin.min2
      dsimp only
      rw [ho, e]; rfl
    · have e2 : t = f2k := by omega
      have e : minF t = f2k := by unfold minF; rw [if_pos ⟨h0, by omega⟩]
      rw [Int.compare_eq_eq.2 (by omega)] at ho
      unfold Builtin.min2
      dsimp only
      rw [ho, e, e2]
      dsimp only
      rw [ite_self]; rfl
    · have e : minF t = f2k := by unfold minF; rw [if_pos ⟨h0, by omega⟩]
      rw [Int.compare_eq_gt.2 (by omega)] at ho
      unfold Builtin.min2
      dsimp only
      rw [ho, e]; rfl
  · have e : minF t = t := by unfold minF; rw [if_neg (fun q => h0 q.1)]
    rw [key_neg h0, Int.compare_eq_lt.2 (by omega)] at ho
    unfold Builtin.min2
    dsimp only
    rw [ho, e]; rfl
theorem run_max_2k (a : Array TypeId) (ty : TypeId) (t : Nat) (ht : t < 18446744073709551616) (hm : mag t ≤ 9218868437227405312) (W : World) : (Builtin.max_ a ty #[.float .f64 m2k, .float .f64 t]).run Tryz.prog W = .ok (.float .f64 (maxF t)) W := by
  have ho : FloatKind.f64.format.order m2k t = some (compare (keyZ m2k) (keyZ t)) := order_key (by decide) hm
  have kf : keyZ m2k = -4656510908468559872 := by decide
  rw [kf] at ho
  show ((Builtin.max2 (.float .f64 m2k) (.float .f64 t)) >>= fun s => pure s).run Tryz.prog W = _
  have hs := sgn_mag2 ht
  have hf2 : f2k = 4656510908468559872 := rfl
  have hm2 : m2k = 13879882945323335680 := rfl
  by_cases h0 : sgn t = 0
  · have e : maxF t = t := by unfold maxF; rw [if_neg (fun q => q.1 h0)]
    rw [key_pos h0, Int.compare_eq_lt.2 (by omega)] at ho
    unfold Builtin.max2
    dsimp only
    rw [ho, e]; rfl
  · rw [key_neg h0] at ho
    have hs2 : sgn t = 9223372036854775808 := by rcases sgn_lt t with e | e <;> omega
    rcases Nat.lt_trichotomy (mag t) f2k with h | h | h
    · have e : maxF t = t := by unfold maxF; rw [if_neg (by omega)]
      rw [Int.compare_eq_lt.2 (by omega)] at ho
      unfold Builtin.max2
      dsimp only
      rw [ho, e]; rfl
    · have e2 : t = m2k := by omega
      have e : maxF t = m2k := by unfold maxF; rw [if_pos ⟨h0, by omega⟩]
      rw [Int.compare_eq_eq.2 (by omega)] at ho
      unfold Builtin.max2
      dsimp only
      rw [ho, e, e2]
      dsimp only
      rw [ite_self]; rfl
    · have e : maxF t = m2k := by unfold maxF; rw [if_pos ⟨h0, by omega⟩]
      rw [Int.compare_eq_gt.2 (by omega)] at ho
      unfold Builtin.max2
      dsimp only
      rw [ho, e]; rfl
theorem f2k_V : V f2k = 2000 * S1074 := by decide +kernel
theorem min_fine {t : Nat} (ht : t < 18446744073709551616) (hm : mag t ≤ 9218868437227405312) : minF t < 18446744073709551616 ∧ mag (minF t) ≤ 9218868437227405312 := by
  unfold minF
  split
  · exact ⟨by decide, by decide⟩
  · exact ⟨ht, hm⟩
/-- Brought between -2000 and 2000, as a whole number. -/
theorem clamp_int {t : Nat} (_ht : t < 18446744073709551616) (hm : mag t ≤ 9218868437227405312) (hw : isWh (mag t) = true) : floatToIntVal .f64 (maxF (minF t)) .i64 = some (max (-2000) (min (whZ t) 2000)) := by
  have hQ : whQ f2k = 2000 := (whQ_of_V f2k_V).1
  have hV := whQ_V hw
  have hle : f2k ≤ mag t → 2000 ≤ whQ (mag t) := fun h => by
    have := V_le h
    rw [hV, f2k_V] at this
    exact Nat.le_of_mul_le_mul_right this S_pos
  have hlt : mag t < f2k → whQ (mag t) < 2000 := fun h => whQ_lt h f2k_V
  have hf2 : f2k = 4656510908468559872 := rfl
  have key : ∀ x : Nat, mag x < 9218868437227405312 → whQ (mag x) ≤ 2000 → whZ x = max (-2000) (min (whZ t) 2000) → floatToIntVal .f64 x .i64 = some (max (-2000) (min (whZ t) 2000)) := fun x h1 h2 h3 => by
    rw [int_of_wh h1 (by omega), h3]
  by_cases h0 : sgn t = 0
  · have hz : whZ t = (whQ (mag t) : Int) := by unfold whZ; rw [if_pos h0]
    by_cases hf : f2k ≤ mag t
    · have e : maxF (minF t) = f2k := by
        unfold minF
        rw [if_pos ⟨h0, hf⟩]
        decide
      have := hle hf
      rw [e]
      refine key _ (by decide) (by rw [show mag f2k = f2k by decide, hQ]; omega) ?_
      rw [hz, show whZ f2k = 2000 from by unfold whZ; rw [if_pos (by decide), show mag f2k = f2k by decide, hQ]; rfl]
      omega
    · have e : maxF (minF t) = t := by
        unfold minF
        rw [if_neg (fun q => hf q.2)]
        unfold maxF
        rw [if_neg (fun q => q.1 h0)]
      have := hlt (by omega)
      rw [e]
      refine key _ (by omega) (by omega) ?_
      rw [hz]
      omega
  · have hz : whZ t = -(whQ (mag t) : Int) := by unfold whZ; rw [if_neg h0]
    have e0 : minF t = t := by unfold minF; rw [if_neg (fun q => h0 q.1)]
    rw [e0]
    by_cases hf : f2k ≤ mag t
    · have e : maxF t = m2k := by unfold maxF; rw [if_pos ⟨h0, hf⟩]
      have := hle hf
      rw [e]
      refine key _ (by decide) (by rw [show mag m2k = f2k by decide, hQ]; omega) ?_
      rw [hz, show whZ m2k = -2000 from by unfold whZ; rw [if_neg (by decide), show mag m2k = f2k by decide, hQ]; rfl]
      omega
    · have e : maxF t = t := by unfold maxF; rw [if_neg (fun q => hf q.2)]
      have := hlt (by omega)
      rw [e]
      refine key _ (by omega) (by omega) ?_
      rw [hz]
      omega
end Go.Proofs.YtddfigbpckhfbaaGreatDoor

namespace Go.Proofs.YtddfigbpckhfbaaGreatDoor
open Go.RowKit Go.Lib

/-- A builder at the place j of a block of a struct, holding the bytes o. -/
structure Bld (W : World) (B g j : Nat) (cs : Array Value) (T : TypeId) (p v : Value) (o : List UInt8) : Prop where
  row : W.heap[g]? = some (.cells cs T (0, 0))
  at0 : cs[j]? = some p
  at1 : cs[j + 1]? = some v
  own : W.ownsRow B 5 1 v o.length (Lib.byteCells o)
  ne : v.ownBlock ≠ some g
  base : B ≤ g
  ptr : p = .pointer none ∨ p = .pointer (some ⟨g, j, none⟩)
section
variable {W W' : World} {B g j : Nat} {cs : Array Value} {T : TypeId} {p v : Value} {o : List UInt8}
theorem Bld.lt (h : Bld W B g j cs T p v o) : g < W.heap.size := (Array.getElem?_eq_some_iff.1 h.row).1
theorem Bld.cell (h : Bld W B g j cs T p v o) (i : Nat) : W.cell? ⟨g, i, none⟩ = cs[i]? := Lib.cell_of_heap h.row i
theorem Bld.fro (h : Bld W B g j cs T p v o) (i : Nat) : W.frozen? ⟨g, i, none⟩ = false := Lib.frozen_of_heap h.row i
theorem Bld.shape (h : Bld W B g j cs T p v o) : W.shape? g = some (T, cs.size) := by simp [World.shape?, h.row]
/-- Only new blocks turn. -/
theorem Bld.below (h : Bld W B g j cs T p v o) (hb : Below W.heap.size W W') : Bld W' B g j cs T p v o := by
  refine ⟨(hb.block g h.lt).trans h.row, h.at0, h.at1, ⟨h.own.1, ?_⟩, h.ne, h.base, h.ptr⟩
  rcases h.own.2 with h1 | ⟨g2, cap, cur, hv, hbg, hg2, r⟩
  · exact Or.inl h1
  · exact Or.inr ⟨g2, cap, cur, hv, hbg, (hb.block g2 (Array.getElem?_eq_some_iff.1 hg2).1).trans hg2, r⟩
/-- A cell of the struct that is none of the builder's set anew. -/
theorem Bld.set (h : Bld W B g j cs T p v o) {i : Nat} (h0 : i ≠ j) (h1 : i ≠ j + 1) (u : Value) : Bld (W.setCell ⟨g, i, none⟩ u) B g j (cs.setIfInBounds i u) T p v o := by
  refine ⟨heap_setCell_same W g i cs T u h.row, ?_, ?_, ?_, h.ne, h.base, h.ptr⟩
  · rw [Array.getElem?_setIfInBounds_ne h0]; exact h.at0
  · rw [Array.getElem?_setIfInBounds_ne h1]; exact h.at1
  · refine h.own.kept (row := some g) ⟨rfl, rfl, rfl, by simp [World.setCell], fun k _ hk => Below.heap_setCell _ _ _ _ (fun e => hk (by simp [e]))⟩ (Or.inr h.ne)
/-- Its own address laid down. -/
theorem Bld.used (h : Bld W B g j cs T p v o) : Bld (W.setCell ⟨g, j, none⟩ (.pointer (some ⟨g, j, none⟩))) B g j (cs.setIfInBounds j (.pointer (some ⟨g, j, none⟩))) T (.pointer (some ⟨g, j, none⟩)) v o := by
  refine ⟨heap_setCell_same W g j cs T _ h.row, ?_, ?_, ?_, h.ne, h.base, Or.inr rfl⟩
  · exact Array.getElem?_setIfInBounds_self_of_lt (Array.getElem?_eq_some_iff.1 h.at0).1
  · rw [Array.getElem?_setIfInBounds_ne (by omega)]; exact h.at1
  · refine h.own.kept (row := some g) ⟨rfl, rfl, rfl, by simp [World.setCell], fun k _ hk => Below.heap_setCell _ _ _ _ (fun e => hk (by simp [e]))⟩ (Or.inr h.ne)
/-- A new buffer laid down. -/
theorem Bld.put {W2 : World} {v' : Value} {o' : List UInt8} (h : Bld W B g j cs T p v o) (hrow : W2.heap[g]? = some (.cells cs T (0, 0))) (hown : W2.ownsRow B 5 1 v' o'.length (Lib.byteCells o')) (hTe : T ≠ 5) :
    Bld (W2.setCell ⟨g, j + 1, none⟩ v') B g j (cs.setIfInBounds (j + 1) v') T p v' o' := by
  have hne := Lib.ownBlock_ne hown hrow hTe
  refine ⟨heap_setCell_same W2 g (j + 1) cs T _ hrow, ?_, ?_, ?_, hne, h.base, h.ptr⟩
  · rw [Array.getElem?_setIfInBounds_ne (by omega)]; exact h.at0
  · exact Array.getElem?_setIfInBounds_self_of_lt (Array.getElem?_eq_some_iff.1 h.at1).1
  · exact hown.kept (row := some g) ⟨rfl, rfl, rfl, by simp [World.setCell], fun k _ hk => Below.heap_setCell _ _ _ _ (fun e => hk (by simp [e]))⟩ (Or.inr hne)
end
theorem setIfInBounds_same {cs : Array Value} {j : Nat} {u : Value} (h : cs[j]? = some u) : cs.setIfInBounds j u = cs := by
  apply Array.ext_getElem?
  intro i
  by_cases e : j = i
  · subst e
    rw [Array.getElem?_setIfInBounds_self_of_lt (Array.getElem?_eq_some_iff.1 h).1, h]
  · rw [Array.getElem?_setIfInBounds_ne e]
theorem info_builder : (Tryz.prog.info? 88).map (·.size) = some 2 := by kernel_rfl
theorem info_byte : (Tryz.prog.info? 5).map (fun i => (i.zero, i.size, i.bytes)) = some (some (.int .u8 0), 1, 1) := by kernel_rfl
set_option maxRecDepth 100000 in
set_option maxHeartbeats 1000000 in
theorem bld_check_used {W : World} {B g j : Nat} {cs : Array Value} {T : TypeId} {v : Value} {o : List UInt8} (h : Bld W B g j cs T (.pointer (some ⟨g, j, none⟩)) v o) :
    Calls Tryz.prog 186 #[.pointer (some ⟨g, j, none⟩)] W fun e w' => e = .returned (.tuple #[]) ∧ w' = W := by
  obtain ⟨i, hi, _⟩ := Option.map_eq_some_iff.1 info_builder
  have h0 := (h.cell j).trans h.at0
  clear h
  go_enter Tryz.func186, Tryz.ntmps186
  go_wp2
  rw [Lib.run_neq_ptr_same W _ Tryz.underlying86 hi]
  go_wp2
  go_end0
  exact ⟨rfl, rfl⟩
set_option maxRecDepth 100000 in
set_option maxHeartbeats 1000000 in
theorem bld_check_fresh {W : World} {B g j : Nat} {cs : Array Value} {T : TypeId} {v : Value} {o : List UInt8} (h : Bld W B g j cs T (.pointer none) v o) (hl : liesAt Tryz.prog Tryz.prog.depth T (cs.size / Tryz.prog.cellsOf T) j 88 1 = true) :
    Calls Tryz.prog 186 #[.pointer (some ⟨g, j, none⟩)] W fun e w' => e = .returned (.tuple #[]) ∧ w' = W.setCell ⟨g, j, none⟩ (.pointer (some ⟨g, j, none⟩)) := by
  obtain ⟨i, hi, his⟩ := Option.map_eq_some_iff.1 info_builder
  have h0 := (h.cell j).trans h.at0
  have hsh := h.shape
  have hfz := h.fro j
  have hoff := (Array.getElem?_eq_some_iff.1 h.at0).1
  clear h
  go_enter Tryz.func186, Tryz.ntmps186
  go_wp2
  rw [Lib.run_to_unsafe W ⟨g, j, none⟩ Tryz.underlying86 Tryz.underlying246 hi (by rw [his]; decide) hsh hoff]
  simp only [Result.andThen]
  rw [Oper.upon_value]
  go_wp2
  rw [run_callFunc_extern Tryz.func229 (by kernel_rfl) (by kernel_rfl) (by kernel_rfl) (e := Extern.AbiNoEscape.same) (by kernel_rfl)]
  rw [Lib.run_noEscape]
  simp only [Result.andThen]
  rw [Oper.upon_value]
  go_wp2
  rw [Lib.run_from_unsafe W ⟨g, j, none⟩ Tryz.underlying246 Tryz.underlying86 hi hsh hl]
  simp only [Result.andThen]
  rw [Oper.upon_value]
  go_wp2
  go_end0
  exact ⟨rfl, rfl⟩
theorem bld_check {W : World} {B g j : Nat} {cs : Array Value} {T : TypeId} {p v : Value} {o : List UInt8} (h : Bld W B g j cs T p v o) (hl : liesAt Tryz.prog Tryz.prog.depth T (cs.size / Tryz.prog.cellsOf T) j 88 1 = true) :
    Calls Tryz.prog 186 #[.pointer (some ⟨g, j, none⟩)] W fun e w' => e = .returned (.tuple #[]) ∧ Bld w' B g j (cs.setIfInBounds j (.pointer (some ⟨g, j, none⟩))) T (.pointer (some ⟨g, j, none⟩)) v o ∧ Below B W w' := by
  rcases h.ptr with rfl | rfl
  · refine (bld_check_fresh h hl).mono ?_
    rintro e w' ⟨rfl, rfl⟩
    exact ⟨rfl, h.used, (Below.refl B W).setCell (p := ⟨g, j, none⟩) h.base _⟩
  · refine (bld_check_used h).mono ?_
    rintro e w' ⟨rfl, rfl⟩
    refine ⟨rfl, ?_, Below.refl B _⟩
    rw [setIfInBounds_same h.at0]
    exact h
set_option maxRecDepth 100000 in
set_option maxHeartbeats 1000000 in
theorem bld_len {W : World} {B g j : Nat} {cs : Array Value} {T : TypeId} {p v : Value} {o : List UInt8} (h : Bld W B g j cs T p v o) :
    Calls Tryz.prog 140 #[.pointer (some ⟨g, j, none⟩)] W fun e w' => e = .returned (.int .i64 (o.length : Int)) ∧ w' = W := by
  obtain ⟨ao, cap, rfl⟩ : ∃ ao cap, v = .slice ao o.length cap := by
    rcases h.own.2 with ⟨hv, h0⟩ | ⟨g, cap, cur, hv, _⟩
    · exact ⟨none, 0, by rw [hv, h0]⟩
    · exact ⟨_, _, hv⟩
  have c1 := (h.cell (j + 1)).trans h.at1
  clear h
  go_enter Tryz.func140, Tryz.ntmps140
  go_wp2
  go_ret
  exact ⟨rfl, rfl⟩
set_option maxRecDepth 100000 in
set_option maxHeartbeats 2000000 in
theorem bld_write {W : World} {B g j : Nat} {cs : Array Value} {T : TypeId} {p v : Value} {o : List UInt8} (s : ByteArray) (h : Bld W B g j cs T p v o) (hl : liesAt Tryz.prog Tryz.prog.depth T (cs.size / Tryz.prog.cellsOf T) j 88 1 = true) (hT : T ≠ 5) (hlen : o.length + s.size ≤ 140737488355328) (hB : B ≤ W.heap.size) :
    Calls Tryz.prog 141 #[.pointer (some ⟨g, j, none⟩), .string s] W fun e w' => (∃ r, e = .returned r) ∧ ∃ v', Bld w' B g j ((cs.setIfInBounds j (.pointer (some ⟨g, j, none⟩))).setIfInBounds (j + 1) v') T (.pointer (some ⟨g, j, none⟩)) v' (o ++ s.data.toList) ∧ Below B W w' := by
  obtain ⟨i0, hi, hz0, hz1, hz2⟩ := info_parts info_byte
  have hC := Lib.hid (bld_check h hl)
  clear h
  go_enter Tryz.func141, Tryz.ntmps141
  go_wp2_with (go_at_call 186; refine hC.out.mono ?_)
  rintro e w1 ⟨rfl, h1, hb1⟩
  have c0 := (h1.cell j).trans h1.at0
  have c1 := (h1.cell (j + 1)).trans h1.at1
  have hsz := hb1.size
  go_wp2_with (at_builtin; refine Lib.wpList_append_own_string _ rfl _ _ 56 9 rfl B 5 i0 Tryz.underlying56 Tryz.underlying9 hi hz0 hz1 hz2 _ _ _ rfl h1.own s rfl ?c3 ?c4 ?c5 ?_)
  case c3 => unfold maxLen; omega
  case c4 => omega
  case c5 => omega
  intro v' w2 hown' hgrow _
  have hb2 : w2.heap[g]? = some (.cells (cs.setIfInBounds j (.pointer (some ⟨g, j, none⟩))) T (0, 0)) := by
    rw [hgrow.block g h1.lt (fun e => h1.ne e.symm)]
    exact h1.row
  have d0 : w2.cell? ⟨g, j, none⟩ = some (.pointer (some ⟨g, j, none⟩)) := (Lib.cell_of_heap hb2 j).trans h1.at0
  have d1 : w2.cell? ⟨g, j + 1, none⟩ = some v := (Lib.cell_of_heap hb2 (j + 1)).trans h1.at1
  have f1 : w2.frozen? ⟨g, j + 1, none⟩ = false := Lib.frozen_of_heap hb2 (j + 1)
  have hfin : Bld (w2.setCell ⟨g, j + 1, none⟩ v') B g j ((cs.setIfInBounds j (.pointer (some ⟨g, j, none⟩))).setIfInBounds (j + 1) v') T (.pointer (some ⟨g, j, none⟩)) v' (o ++ s.data.toList) := by
    refine h1.put hb2 ?_ hT
    have e : Lib.byteCells (o ++ s.data.toList) = Lib.byteCells o ++ Lib.strCells s := by simp [Lib.byteCells, Lib.strCells]
    rw [e, List.length_append, ba_len]
    exact hown'
  have hbel : Below B W (w2.setCell ⟨g, j + 1, none⟩ v') := (hb1.grown hgrow (by omega) (fun k hk => (h1.own.lt k hk).1)).setCell (p := ⟨g, j + 1, none⟩) h1.base _
  obtain ⟨ao, n', cap, rfl⟩ : ∃ ao n' cap, v' = .slice ao n' cap := by
    rcases hown'.2 with ⟨hv, _⟩ | ⟨g, cap, cur, hv, _⟩
    · exact ⟨_, _, _, hv⟩
    · exact ⟨_, _, _, hv⟩
  go_wp2
  go_ret2
  exact ⟨⟨_, rfl⟩, _, hfin, hbel⟩
theorem unsafeString_no (W : World) (q : Option Addr) : (Builtin.unsafeString_ #[124, 3] 9 #[.pointer q, .int .i64 0]).run Tryz.prog W = .ok (.string .empty) W := Lib.run_unsafeString_none W _ _ _ q
set_option maxRecDepth 100000 in
set_option maxHeartbeats 2000000 in
/-- What the builder holds, as a string. -/
theorem bld_string {W : World} {B g j : Nat} {cs : Array Value} {T : TypeId} {p v : Value} {o : List UInt8} (h : Bld W B g j cs T p v o) (hB : B ≤ W.heap.size) :
    Calls Tryz.prog 64 #[.pointer (some ⟨g, j, none⟩)] W fun e w' => e = .returned (.string ⟨o.toArray⟩) ∧ Below B W w' := by
  have hat := h.at1
  have hrow : W.drew.heap[g]? = some (.cells cs T (0, 0)) := h.row
  have hlt := h.lt
  have hcb : Tryz.prog.cellsOf 5 = 1 := by kernel_rfl
  cases o with
  | nil =>
    have hUS := unsafeString_no
    rcases h.own.2 with ⟨rfl, _⟩ | ⟨q, cap, cur, rfl, hbq, hq, _, _, _, _⟩
    · have c1 : W.drew.cell? ⟨g, j + 1, none⟩ = some (.slice none 0 0) := (Lib.cell_of_heap hrow (j + 1)).trans hat
      have hSD : (Builtin.unsafeSliceData_ #[56] 124 #[.slice none 0 0]).run Tryz.prog W.drew = .ok (.pointer none) W.drew := rfl
      clear h hrow hlt hat
      go_enter Tryz.func64, Tryz.ntmps64
      go_wp2
      go_region
      all_goals (go_wp2; go_ret; exact ⟨rfl, Below.drew (Below.refl B W)⟩)
    · by_cases hc0 : cap = 0
      · subst hc0
        have c1 : W.drew.cell? ⟨g, j + 1, none⟩ = some (.slice (some ⟨q, 0, none⟩) 0 0) := (Lib.cell_of_heap hrow (j + 1)).trans hat
        have hSD : (Builtin.unsafeSliceData_ #[56] 124 #[.slice (some ⟨q, 0, none⟩) 0 0]).run Tryz.prog W.drew = .ok (.pointer (some ⟨W.drew.heap.size, 0, none⟩)) (W.drew.alloc (.view ⟨q, 0, none⟩ 5)) :=
          Lib.run_unsafeSliceData_zero W.drew _ _ 5 Tryz.underlying124 ⟨q, 0, none⟩ 0 (5, cur.size) (by have hg' : W.drew.heap[q]? = some (.cells cur 5 (0, 0)) := hq; simp [World.shape?, hg'])
        have c2 : (W.drew.alloc (.view ⟨q, 0, none⟩ 5)).cell? ⟨g, j + 1, none⟩ = some (.slice (some ⟨q, 0, none⟩) 0 0) := by
          have : (W.drew.alloc (.view ⟨q, 0, none⟩ 5)).heap[g]? = _ := (Lib.alloc_old W.drew _ g hlt).trans hrow
          exact (Lib.cell_of_heap this (j + 1)).trans hat
        have c3 : (W.alloc (.view ⟨q, 0, none⟩ 5)).drew.cell? ⟨g, j + 1, none⟩ = some (.slice (some ⟨q, 0, none⟩) 0 0) := c2
        have c0 : W.cell? ⟨g, j + 1, none⟩ = some (.slice (some ⟨q, 0, none⟩) 0 0) := c1
        clear h hrow hlt hat
        go_enter Tryz.func64, Tryz.ntmps64
        go_wp2
        go_region
        all_goals (go_wp2; go_ret; exact ⟨rfl, (Below.drew (Below.refl B W)).alloc hB _⟩)
      · have c1 : W.drew.cell? ⟨g, j + 1, none⟩ = some (.slice (some ⟨q, 0, none⟩) 0 cap) := (Lib.cell_of_heap hrow (j + 1)).trans hat
        have hSD : (Builtin.unsafeSliceData_ #[56] 124 #[.slice (some ⟨q, 0, none⟩) 0 cap]).run Tryz.prog W.drew = .ok (.pointer (some ⟨q, 0, none⟩)) W.drew := Lib.run_unsafeSliceData_row _ _ _ _ _ _ hc0
        clear h hrow hlt hat hc0
        go_enter Tryz.func64, Tryz.ntmps64
        go_wp2
        go_region
        all_goals (go_wp2; go_ret; exact ⟨rfl, Below.drew (Below.refl B W)⟩)
  | cons x r =>
    obtain ⟨l, hl⟩ : ∃ l, x :: r = l := ⟨_, rfl⟩
    have h0 : l ≠ [] := by rw [← hl]; simp
    rw [hl] at h ⊢
    have hl0 : l.length ≠ 0 := by simpa using h0
    have hown := h.own
    obtain ⟨q, cap, cur, rfl, hbq, hq, hnc, hcm, hcs, htake⟩ : ∃ q cap cur, v = .slice (some ⟨q, 0, none⟩) l.length cap ∧ B ≤ q ∧ W.heap[q]? = some (.cells cur 5 (0, 0)) ∧ l.length ≤ cap ∧ cap ≤ maxLen ∧ cur.size = cap * 1 ∧ cur.toList.take (l.length * 1) = Lib.byteCells l := by
      rcases hown.2 with ⟨_, hz⟩ | ⟨q, cap, cur, hv, r⟩
      · exact absurd hz hl0
      · exact ⟨q, cap, cur, hv, r⟩
    have c1 : W.drew.cell? ⟨g, j + 1, none⟩ = some (.slice (some ⟨q, 0, none⟩) l.length cap) := (Lib.cell_of_heap hrow (j + 1)).trans hat
    have hSD : (Builtin.unsafeSliceData_ #[56] 124 #[.slice (some ⟨q, 0, none⟩) l.length cap]).run Tryz.prog W.drew = .ok (.pointer (some ⟨q, 0, none⟩)) W.drew :=
      Lib.run_unsafeSliceData_row _ _ _ _ _ _ (by omega)
    have hUS : (Builtin.unsafeString_ #[124, 3] 9 #[.pointer (some ⟨q, 0, none⟩), .int .i64 l.length]).run Tryz.prog W.drew = .ok (.string ⟨l.toArray⟩) (W.drew.freeze ⟨q, 0, none⟩ l.length) := by
      refine Lib.run_unsafeString_row W.drew 124 3 9 5 Tryz.underlying124 hcb q cur.size (by have hg' : W.drew.heap[q]? = some (.cells cur 5 (0, 0)) := hq; simp [World.shape?, hg']) l h0 (by omega) (by unfold maxLen at hcm; omega) ?_
      intro i x hx
      have := hown.cells (g := q) rfl i (.int .u8 x.toNat) (by simp [Lib.byteCells, hx])
      exact this
    clear h hrow hlt hat hown hq hnc hcm hcs htake hl h0 hl0 hcb hB
    go_enter Tryz.func64, Tryz.ntmps64
    go_wp2
    go_region
    all_goals (go_wp2; go_ret; exact ⟨rfl, Lib.below_freeze (Below.drew (Below.refl B W)) (p := ⟨q, 0, none⟩) hbq _⟩)
end Go.Proofs.YtddfigbpckhfbaaGreatDoor

namespace Go.Proofs.YtddfigbpckhfbaaGreatDoor
open Go.RowKit Go.Lib

/-- Its values lie there. -/
def RdC (W : World) (A : Option Addr) (l : List Cl) : Prop := ∀ j (_ : j < l.length), ∃ b off, A = some ⟨b, off, none⟩ ∧ ∀ i, i < 3 → W.cell? ⟨b, off + j * 3 + i, none⟩ = l[j].cells[i]?
theorem RdC.below {W W' : World} {A : Option Addr} {l : List Cl} {B : Nat} (h : RdC W A l) (hB : W.heap.size ≤ B) (hb : Below B W W') : RdC W' A l := fun j hj => by
  obtain ⟨b, off, e, hc⟩ := h j hj
  refine ⟨b, off, e, fun i hi => ?_⟩
  have h1 := hc i hi
  have h2 : l[j].cells[i]? = some (l[j].cells[i]'(by simpa [Cl.cells] using hi)) := List.getElem?_eq_getElem _
  have hl := World.block_lt_of_cell? W _ (h1.trans h2)
  exact (hb.cell (p := ⟨b, off + j * 3 + i, none⟩) (Nat.lt_of_lt_of_le hl hB)).trans h1
/-- A slice of values. -/
def ArgV (W : World) (v : Value) (l : List Cl) : Prop := ∃ A cap, v = .slice A l.length cap ∧ l.length ≤ cap ∧ cap ≤ maxLen ∧ RdC W A l
theorem ArgV.below {W W' : World} {v : Value} {l : List Cl} {B : Nat} (h : ArgV W v l) (hB : W.heap.size ≤ B) (hb : Below B W W') : ArgV W' v l := by
  obtain ⟨A, cap, e, h1, h2, h3⟩ := h
  exact ⟨A, cap, e, h1, h2, h3.below hB hb⟩
theorem RdC.tail {W : World} {b off : Nat} {c : Cl} {t : List Cl} (h : RdC W (some ⟨b, off, none⟩) (c :: t)) : RdC W (some ⟨b, off + 3, none⟩) t := fun j hj => by
  obtain ⟨b', off', e, hc⟩ := h (j + 1) (by simp; omega)
  injection e with e
  injection e with e1 e2 e3
  subst e1; subst e2
  refine ⟨b, off + 3, rfl, fun i hi => ?_⟩
  have := hc i hi
  rw [show off + (j + 1) * 3 + i = off + 3 + j * 3 + i by omega] at this
  exact this
/-- The writer's cells. -/
def wc (S : ByteArray) (k : Nat) (av : Value) (C : ByteArray) (by' : Bool) (p v : Value) : Array Value := #[.string S, .int .i64 (k : Int), av, .string C, .bool by', p, v]
theorem lies_w : liesAt Tryz.prog Tryz.prog.depth 90 (7 / Tryz.prog.cellsOf 90) 5 88 1 = true := by kernel_rfl
/-- The writer: what it holds; only blocks from B on have turned since w0. -/
structure Wt (w0 W : World) (B g : Nat) (S : ByteArray) (k : Nat) (av : Value) (C : ByteArray) (by' : Bool) (o : List UInt8) : Prop where
  bld : ∃ p v, Bld W B g 5 (wc S k av C by' p v) 90 p v o
  bel : Below B w0 W
  lim : w0.heap.size ≤ B
theorem Wt.below {w0 W W' : World} {B g k : Nat} {S C : ByteArray} {av : Value} {by' : Bool} {o : List UInt8} (h : Wt w0 W B g S k av C by' o) (hb : Below W.heap.size W W') : Wt w0 W' B g S k av C by' o := by
  obtain ⟨⟨p, v, h1⟩, h2, h3⟩ := h
  have := h1.lt
  have := h1.base
  exact ⟨⟨p, v, h1.below hb⟩, h2.trans (hb.mono (by omega)), h3⟩
theorem Wt.cells {w0 W : World} {B g k : Nat} {S C : ByteArray} {av : Value} {by' : Bool} {o : List UInt8} (h : Wt w0 W B g S k av C by' o) :
    W.cell? ⟨g, 0, none⟩ = some (.string S) ∧ W.cell? ⟨g, 1, none⟩ = some (.int .i64 (k : Int)) ∧ W.cell? ⟨g, 2, none⟩ = some av ∧ W.cell? ⟨g, 3, none⟩ = some (.string C) ∧ W.cell? ⟨g, 4, none⟩ = some (.bool by') ∧ W.frozen? ⟨g, 1, none⟩ = false ∧ W.frozen? ⟨g, 2, none⟩ = false := by
  obtain ⟨⟨p, v, h1⟩, h2, h3⟩ := h
  exact ⟨h1.cell 0, h1.cell 1, h1.cell 2, h1.cell 3, h1.cell 4, h1.fro 1, h1.fro 2⟩
theorem Wt.setAt {w0 W : World} {B g k : Nat} {S C : ByteArray} {av : Value} {by' : Bool} {o : List UInt8} (h : Wt w0 W B g S k av C by' o) (k' : Nat) : Wt w0 (W.setCell ⟨g, 1, none⟩ (.int .i64 (k' : Int))) B g S k' av C by' o := by
  obtain ⟨⟨p, v, h1⟩, h2, h3⟩ := h
  exact ⟨⟨p, v, h1.set (i := 1) (by decide) (by decide) _⟩, h2.setCell (p := ⟨g, 1, none⟩) h1.base _, h3⟩
theorem Wt.setArgs {w0 W : World} {B g k : Nat} {S C : ByteArray} {av : Value} {by' : Bool} {o : List UInt8} (h : Wt w0 W B g S k av C by' o) (av' : Value) : Wt w0 (W.setCell ⟨g, 2, none⟩ av') B g S k av' C by' o := by
  obtain ⟨⟨p, v, h1⟩, h2, h3⟩ := h
  exact ⟨⟨p, v, h1.set (i := 2) (by decide) (by decide) _⟩, h2.setCell (p := ⟨g, 2, none⟩) h1.base _, h3⟩
theorem Wt.drew {w0 W : World} {B g k : Nat} {S C : ByteArray} {av : Value} {by' : Bool} {o : List UInt8} (h : Wt w0 W B g S k av C by' o) (n : Nat) : Wt w0 (W.drewN n) B g S k av C by' o := h.below (below_drewN (Below.refl _ _) n)
theorem Wt.size {w0 W : World} {B g k : Nat} {S C : ByteArray} {av : Value} {by' : Bool} {o : List UInt8} (h : Wt w0 W B g S k av C by' o) : B ≤ W.heap.size ∧ g < W.heap.size := by
  obtain ⟨⟨p, v, h1⟩, h2, h3⟩ := h
  have := h1.lt
  have := h1.base
  omega
theorem Wt.args {w0 W : World} {B g k : Nat} {S C : ByteArray} {av : Value} {by' : Bool} {o : List UInt8} {v : Value} {l : List Cl} (h : Wt w0 W B g S k av C by' o) (ha : ArgV w0 v l) : ArgV W v l := ha.below h.lim h.bel
theorem next_out (W : World) (g : Nat) (u : Value) (cs : Array Value) (t : TypeId) : Five (((W.setCell ⟨g, 2, none⟩ u).alloc (.cells cs t)).alloc (.cells cs t)) W.heap.size cs t := by
  have h := (Five.new (W.setCell ⟨g, 2, none⟩ u) cs t).alloc (.cells cs t)
  rwa [show (W.setCell ⟨g, 2, none⟩ u).heap.size = W.heap.size from by simp [World.setCell]] at h
def NextEnd (w0 W : World) (B g : Nat) (S : ByteArray) (k : Nat) (C : ByteArray) (by' : Bool) (o : List UInt8) (l : List Cl) (av : Value) (e : Ending) (w' : World) : Prop :=
  match l with
  | [] => e = .returned (.tuple #[.agg #[.int .i64 0, .float .f64 0, .string ⟨#[]⟩], .int .i64 50]) ∧ Wt w0 w' B g S k av C by' o ∧ Out [g] W w'
  | c :: t => e = .returned (.tuple #[c.val, .int .i64 0]) ∧ (∃ av', ArgV w0 av' t ∧ Wt w0 w' B g S k av' C by' o) ∧ Out [g] W w'
set_option maxRecDepth 100000 in
set_option maxHeartbeats 4000000 in
theorem wNext_any (w0 W : World) (B g : Nat) (S : ByteArray) (k : Nat) (C : ByteArray) (by' : Bool) (o : List UInt8) (l : List Cl) (av : Value) (ha : ArgV w0 av l) (h : Wt w0 W B g S k av C by' o) :
    Calls Tryz.prog 145 #[.pointer (some ⟨g, 0, none⟩)] W (NextEnd w0 W B g S k C by' o l av) := by
  have hA := h.args ha
  have hst := run_store_float
  obtain ⟨hBQ, hgl⟩ := h.size
  have H := Lib.hid h
  obtain ⟨c0, c1, c2, c3, c4, f1, f2⟩ := h.cells
  clear h
  cases l with
  | nil =>
    obtain ⟨A, cap, rfl, -⟩ := ha
    have hl0 : ((([] : List Cl).length : Int) == 0) = true := rfl
    go_enter Tryz.func145, Tryz.ntmps145
    go_wp2_with fail
    obtain ⟨q0, q1, q2, -⟩ := (Five.new W #[.int .i64 0, .float .f64 0, .string ⟨#[]⟩] 38).three
    exact bodyPost_ret (v := .tuple #[.agg #[.int .i64 0, .float .f64 0, .string ⟨#[]⟩], .int .i64 50]) (by simp [results, Tryz.results145, go_sem, q0, q1, q2]) rfl ⟨rfl, H.out.below ((Below.refl W.heap.size W).alloc (Nat.le_refl _) _), (Out.refl [g] W).alloc _⟩
  | cons c t =>
    obtain ⟨A, cap, rfl, hc1, hc2, hr⟩ := ha
    obtain ⟨A', cap', hv, -, -, hrW⟩ := hA
    injection hv with hv1 hv2 hv3
    subst hv1; subst hv3
    obtain ⟨b, off, rfl, hcl⟩ := hrW 0 (by simp)
    have k0 : W.cell? ⟨b, off, none⟩ = some (.int .i64 c.kind) := hcl 0 (by omega)
    have k1 : W.cell? ⟨b, off + 1, none⟩ = some (.float .f64 c.bits) := hcl 1 (by omega)
    have k2 : W.cell? ⟨b, off + 2, none⟩ = some (.string c.str) := hcl 2 (by omega)
    have hbl := World.block_lt_of_cell? W _ k0
    simp only at hbl
    rw [List.length_cons] at c2
    obtain ⟨n, hn⟩ : ∃ n, t.length = n := ⟨_, rfl⟩
    rw [hn] at c2
    have hcn : n + 1 ≤ cap := by rw [← hn]; simpa using hc1
    have h0 : (((n : Int) + 1) == 0) = false := by rw [beq_eq_false_iff_ne]; omega
    have hi0 : (0 : Int) < (n : Int) + 1 := by omega
    have hi1 : (1 : Int) ≤ (n : Int) + 1 := by omega
    go_enter Tryz.func145, Tryz.ntmps145
    go_wp2_with fail
    all_goals
      first
      | (have hav : ArgV w0 (.slice (some ⟨b, off + 3, none⟩) n (cap - 1)) t := ⟨_, _, by rw [hn], by omega, by omega, hr.tail⟩
         obtain ⟨q0, q1, q2, -⟩ := (next_out W g (.slice (some ⟨b, off + 3, none⟩) n (cap - 1)) #[.int .i64 c.kind, .float .f64 c.bits, .string c.str] 38).three
         exact bodyPost_ret (v := .tuple #[.agg #[.int .i64 c.kind, .float .f64 c.bits, .string c.str], .int .i64 0]) (by simp [results, Tryz.results145, go_sem, q0, q1, q2]) rfl ⟨rfl, ⟨_, hav, (H.out.setArgs _).below (((Below.refl _ _).alloc (Nat.le_refl _) _).alloc (by simp) _)⟩, (((Out.refl [g] W).set (p := ⟨g, 2, none⟩) (by simp) _).alloc _).alloc _⟩)
      | (have hav : ArgV w0 (.slice (some ⟨b, off, none⟩) n 0) t := ⟨_, _, by rw [hn], by omega, by omega, fun j hj => by omega⟩
         obtain ⟨q0, q1, q2, -⟩ := (next_out W g (.slice (some ⟨b, off, none⟩) n 0) #[.int .i64 c.kind, .float .f64 c.bits, .string c.str] 38).three
         exact bodyPost_ret (v := .tuple #[.agg #[.int .i64 c.kind, .float .f64 c.bits, .string c.str], .int .i64 0]) (by simp [results, Tryz.results145, go_sem, q0, q1, q2]) rfl ⟨rfl, ⟨_, hav, (H.out.setArgs _).below (((Below.refl _ _).alloc (Nat.le_refl _) _).alloc (by simp) _)⟩, (((Out.refl [g] W).set (p := ⟨g, 2, none⟩) (by simp) _).alloc _).alloc _⟩)
end Go.Proofs.YtddfigbpckhfbaaGreatDoor

namespace Go.Proofs.YtddfigbpckhfbaaGreatDoor
open Go.RowKit Go.Lib

theorem nearR_top (X D : Nat) : nearR X D ≤ 9218868437227405312 := by
  by_cases h : ∃ r, Near X D r
  · unfold nearR
    rw [dif_pos h]
    exact (Classical.choose_spec h).top
  · unfold nearR
    rw [dif_neg h]
    omega
end Go.Proofs.YtddfigbpckhfbaaGreatDoor

namespace Go.Proofs.YtddfigbpckhfbaaGreatDoor
open Go.RowKit Go.Lib

set_option maxRecDepth 100000 in
set_option maxHeartbeats 4000000 in
theorem wWrite_any (w0 W : World) (B g : Nat) (S : ByteArray) (k : Nat) (C : ByteArray) (by' : Bool) (o : List UInt8) (av : Value) (s : ByteArray) (h : Wt w0 W B g S k av C by' o) (ho : o.length ≤ 1024) :
    Calls Tryz.prog 94 #[.pointer (some ⟨g, 0, none⟩), .string s] W fun e w' => (1024 < o.length + s.size ∧ e = .returned (.int .i64 3) ∧ Wt w0 w' B g S k av C by' o) ∨ (¬ 1024 < o.length + s.size ∧ e = .returned (.int .i64 0) ∧ Wt w0 w' B g S k av C by' (o ++ s.data.toList)) := by
  have HWt := Lib.hid h
  obtain ⟨⟨p, v, hb⟩, hbel, hlim⟩ := h
  have CL := Lib.hid (bld_len hb)
  have hwr : IntKind.i64.wrap (1024 - (o.length : Int)) = 1024 - (o.length : Int) := by rw [IntKind.wrap_i64]; omega
  have hgl := hb.lt
  by_cases hlt : 1024 < o.length + s.size
  · have hl : (1024 : Int) - (o.length : Int) < (s.size : Int) := by omega
    clear hb hbel hlim
    go_enter Tryz.func94, Tryz.ntmps94
    go_wp2_with fail
    refine CL.out.mono ?_
    rintro e w' ⟨rfl, rfl⟩
    go_wp2_with fail
    go_ret
    exact Or.inl ⟨hlt, rfl, HWt.out⟩
  · have hl : ¬ (1024 : Int) - (o.length : Int) < (s.size : Int) := by omega
    have hBW : B ≤ W.heap.size := by have := hb.base; omega
    have CW := Lib.hid (bld_write s hb (by exact lies_w) (by decide) (by omega) hBW)
    have HB := Lib.hid hbel
    clear hb hbel
    go_enter Tryz.func94, Tryz.ntmps94
    go_wp2_with fail
    refine CL.out.mono ?_
    rintro e w' ⟨rfl, rfl⟩
    go_wp2_with fail
    refine CW.out.mono ?_
    rintro e w2 ⟨⟨r, rfl⟩, v', hb2, hbel2⟩
    have HF := Lib.hid (show Wt w0 w2 B g S k av C by' (o ++ s.data.toList) from ⟨⟨_, v', hb2⟩, HB.out.trans hbel2, hlim⟩)
    clear hb2 hbel2
    go_wp2_with fail
    go_ret
    exact Or.inr ⟨hlt, rfl, HF.out⟩
theorem nanB_no {t : Nat} (h : mag t ≤ 9218868437227405312) : nanB t = false := by
  unfold nanB
  rw [show FloatKind.f64.format.order t t = some (compare (keyZ t) (keyZ t)) from order_key h h, Int.compare_eq_eq.2 rfl]
  rfl
theorem nanB_yes {t : Nat} (h : 9218868437227405312 < mag t) : nanB t = true := by
  unfold nanB
  rw [show FloatKind.f64.format.order t t = none from order_nan_l h]
  rfl
theorem TruncOf.figI {b t : Nat} (h : TruncOf b t) (hb : b < 18446744073709551616) (hm : Go.Proofs.YtddfigbpckhfbaaGreatDoor.mag b ≤ 9218868437227405312) : Go.Proofs.YtddfigbpckhfbaaGreatDoor.figI b = max (-2000) (min (whZ t) 2000) := by
  obtain ⟨h1, h2, h3, _⟩ := h.mag hb hm
  unfold Go.Proofs.YtddfigbpckhfbaaGreatDoor.figI
  rw [if_neg (by omega)]
  unfold whZ
  rw [h2, h3]
set_option maxRecDepth 100000 in
set_option maxHeartbeats 4000000 in
theorem wAmount_core (W : World) (g : Nat) (kn : Int) (b : Nat) (s : ByteArray) (E : Int) (P : World → Prop) (hP : ∀ W W', P W → Below W.heap.size W W' → P W')
    (hN : Calls Tryz.prog 145 #[.pointer (some ⟨g, 0, none⟩)] W fun e w' => e = .returned (.tuple #[.agg #[.int .i64 kn, .float .f64 b, .string s], .int .i64 E]) ∧ P w') (hs : s.size ≤ 140737488355328) (hb : numV2 kn b s < 18446744073709551616) :
    Calls Tryz.prog 191 #[.pointer (some ⟨g, 0, none⟩)] W fun e w' => e = .returned (.tuple #[.int .i64 (figI (numV2 kn b s)), .int .i64 E]) ∧ P w' := by
  have CN := Lib.hid hN
  have HP := Lib.hid hP
  have C1 := Lib.hid (fun W => cNumber_any kn b s W hs)
  have C2 := Lib.hid (fun W => numTrunc_all (numV2 kn b s) W hb)
  have C3 := Lib.hid (fun t W => isNaN_any t W)
  obtain ⟨N, hN2⟩ : ∃ N, numV2 kn b s = N := ⟨_, rfl⟩
  rw [hN2] at C1 C2 hb ⊢
  obtain ⟨R0, hR0⟩ : ∃ R0, figI N = R0 := ⟨_, rfl⟩
  rw [hR0]
  have HR0 := Lib.hid hR0
  clear hN hP hN2 hs hR0
  go_enter Tryz.func191, Tryz.ntmps191
  go_wp2_with fail
  refine CN.out.mono ?_
  rintro e W2 ⟨rfl, hP2⟩
  have HP2 := Lib.hid (HP.out _ _ hP2 ((Below.refl W2.heap.size W2).alloc (Nat.le_refl _) (.cells #[.int .i64 kn, .float .f64 b, .string s] 38)))
  clear hP2
  obtain ⟨q0, q1, q2, -⟩ := (Five.new W2 #[.int .i64 kn, .float .f64 b, .string s] 38).three
  have hst := run_store_float
  go_wp2_with fail
  refine (C1.out _).mono ?_
  rintro e W3 ⟨rfl, h3⟩
  have HP3 := Lib.hid (HP.out _ _ HP2.out h3)
  clear h3 q0 q1 q2
  go_wp2_with fail
  refine (C2.out _).mono ?_
  rintro e W4 ⟨⟨t, rfl, ht⟩, h4⟩
  have HP4 := Lib.hid (HP.out _ _ HP3.out h4)
  clear h4 HP2 HP3
  by_cases hm : mag N ≤ 9218868437227405312
  · obtain ⟨t1, t2, t3, t4⟩ := ht.mag hb hm
    have hz := nanB_no t1
    have hfig := ht.figI hb hm
    have hm2 := min_fine ht.lt t1
    have r1 := fun W => run_min_2k #[24, 24] 24 t ht.lt t1 W
    have r2 := fun W => run_max_2k #[24, 24] 24 (minF t) hm2.1 hm2.2 W
    have r3 : ∀ W, (convert 24 3 (.float .f64 (maxF (minF t)))).run Tryz.prog W = .ok (.int .i64 (max (-2000) (min (whZ t) 2000))) W := fun W => run_convert_float_int W 24 3 .f64 .i64 _ _ (by rw [Tryz.underlying24]; rfl) Tryz.underlying3 (clamp_int ht.lt t1 t4)
    rw [← hfig, HR0.out] at r3
    have C3' := Lib.hid (C3.out t)
    rw [hz] at C3'
    generalize max (-2000) (min (whZ t) 2000) = R at hfig
    generalize maxF (minF t) = t8 at r2 r3
    generalize minF t = t7 at r1 r2
    clear ht hm t1 t2 t3 t4 hz hm2 C3 hb hfig hst
    go_wp2_with fail
    refine (C3'.out _).mono ?_
    rintro e w' ⟨rfl, rfl⟩
    go_wp2_with fail
    go_ret2
    exact ⟨rfl, HP4.out⟩
  · have hz := nanB_yes (ht.nan (by omega))
    have hfig : figI N = 0 := by unfold figI; rw [if_pos (by omega)]
    have e0 : R0 = 0 := HR0.out.symm.trans hfig
    have r1 := fun W => run_min_2k #[24, 24] 24 0 (by decide) (by decide) W
    have r2 := fun W => run_max_2k #[24, 24] 24 (minF 0) (by decide) (by decide) W
    have r3 : ∀ W, (convert 24 3 (.float .f64 (maxF (minF 0)))).run Tryz.prog W = .ok (.int .i64 0) W := fun W => run_convert_float_int W 24 3 .f64 .i64 _ _ (by rw [Tryz.underlying24]; rfl) Tryz.underlying3 (by decide +kernel)
    have C3' := Lib.hid (C3.out t)
    rw [hz] at C3'
    generalize maxF (minF 0) = t8 at r2 r3
    generalize minF 0 = t7 at r1 r2
    have E0 := Lib.hid e0
    clear ht hm hz C3 hb hfig hst e0
    go_wp2_with fail
    refine (C3'.out _).mono ?_
    rintro e w' ⟨rfl, rfl⟩
    go_wp2_with fail
    go_ret2
    exact ⟨by rw [E0.out]; rfl, HP4.out⟩
theorem num_lt (c : Cl) (hf : c.fine) : c.num < 18446744073709551616 := by
  unfold Cl.num numV2
  split
  · exact hf.bits
  · split
    · exact turned_lt _ (by have := nearR_top (2 * (pv ((sigL c.str.data.toList).2.1 ++ (sigL c.str.data.toList).2.2.1) * 10 ^ ((sigL c.str.data.toList).2.2.2.1 - ((sigL c.str.data.toList).2.2.1.length : Int)).toNat) * S1074) (10 ^ (-((sigL c.str.data.toList).2.2.2.1 - ((sigL c.str.data.toList).2.2.1.length : Int))).toNat); omega)
    · decide
/-- What amount leaves. -/
def AmtEnd (w0 W : World) (B g : Nat) (S : ByteArray) (k : Nat) (C : ByteArray) (by' : Bool) (o : List UInt8) (l : List Cl) (e : Ending) (w' : World) : Prop :=
  match l with
  | [] => e = .returned (.tuple #[.int .i64 0, .int .i64 50]) ∧ (∃ av', Wt w0 w' B g S k av' C by' o) ∧ Out [g] W w'
  | c :: t => e = .returned (.tuple #[.int .i64 (figI c.num), .int .i64 0]) ∧ (∃ av', ArgV w0 av' t ∧ Wt w0 w' B g S k av' C by' o) ∧ Out [g] W w'
theorem wAmount_any (w0 W : World) (B g : Nat) (S : ByteArray) (k : Nat) (C : ByteArray) (by' : Bool) (o : List UInt8) (l : List Cl) (av : Value) (ha : ArgV w0 av l) (h : Wt w0 W B g S k av C by' o) (hf : ∀ c ∈ l, c.fine) :
    Calls Tryz.prog 191 #[.pointer (some ⟨g, 0, none⟩)] W (AmtEnd w0 W B g S k C by' o l) := by
  have hn := wNext_any w0 W B g S k C by' o l av ha h
  have hO : ∀ {W1 W2 : World}, Out [g] W W1 → Below W1.heap.size W1 W2 → Out [g] W W2 := fun h1 h2 => h1.trans (Out.of_below h2)
  cases l with
  | nil =>
    have := wAmount_core W g 0 0 ⟨#[]⟩ 50 (fun w' => (∃ av', Wt w0 w' B g S k av' C by' o) ∧ Out [g] W w') (fun W1 W2 ⟨⟨av', q1⟩, q2⟩ hb => ⟨⟨av', q1.below hb⟩, hO q2 hb⟩) (hn.mono fun e w' q => ⟨q.1, ⟨_, q.2.1⟩, q.2.2⟩) (by decide) (by decide)
    refine this.mono fun e w' q => ⟨?_, q.2⟩
    rw [q.1, show figI (numV2 0 0 ⟨#[]⟩) = 0 from by
      have e0 : numV2 0 0 ⟨#[]⟩ = 0 := by unfold numV2; rw [if_neg (by decide), if_neg (by decide)]
      rw [e0]
      decide +kernel]
  | cons c t =>
    have hc := hf c (List.mem_cons_self ..)
    have := wAmount_core W g c.kind c.bits c.str 0 (fun w' => (∃ av', ArgV w0 av' t ∧ Wt w0 w' B g S k av' C by' o) ∧ Out [g] W w') (fun W1 W2 ⟨⟨av', q0, q1⟩, q2⟩ hb => ⟨⟨av', q0, q1.below hb⟩, hO q2 hb⟩) (hn.mono fun e w' q => ⟨q.1, q.2⟩) hc.str (num_lt c hc)
    exact this.mono fun e w' q => ⟨q.1, q.2⟩
end Go.Proofs.YtddfigbpckhfbaaGreatDoor

namespace Go.Proofs.YtddfigbpckhfbaaGreatDoor
open Go.RowKit Go.Lib

theorem end8 {W : World} {B : Nat} {t : TypeId} {a0 a1 a2 a3 a4 a5 a6 a7 : Value} (v0 v1 v2 v3 v4 v5 v6 v7 : Value) (F : Five W B #[a0, a1, a2, a3, a4, a5, a6, a7] t) :
    Five ((((((((W.setCell ⟨B, 0, none⟩ v0).setCell ⟨B, 1, none⟩ v1).setCell ⟨B, 2, none⟩ v2).setCell ⟨B, 3, none⟩ v3).setCell ⟨B, 4, none⟩ v4).setCell ⟨B, 5, none⟩ v5).setCell ⟨B, 6, none⟩ v6).setCell ⟨B, 7, none⟩ v7) B #[v0, v1, v2, v3, v4, v5, v6, v7] t := by
  replace F : Five (W.setCell ⟨B, 0, none⟩ v0) B #[v0, a1, a2, a3, a4, a5, a6, a7] t := F.set (j := 0) (u := v0)
  generalize (W.setCell ⟨B, 0, none⟩ v0) = W1 at *
  replace F : Five (W1.setCell ⟨B, 1, none⟩ v1) B #[v0, v1, a2, a3, a4, a5, a6, a7] t := F.set (j := 1) (u := v1)
  generalize (W1.setCell ⟨B, 1, none⟩ v1) = W2 at *
  replace F : Five (W2.setCell ⟨B, 2, none⟩ v2) B #[v0, v1, v2, a3, a4, a5, a6, a7] t := F.set (j := 2) (u := v2)
  generalize (W2.setCell ⟨B, 2, none⟩ v2) = W3 at *
  replace F : Five (W3.setCell ⟨B, 3, none⟩ v3) B #[v0, v1, v2, v3, a4, a5, a6, a7] t := F.set (j := 3) (u := v3)
  generalize (W3.setCell ⟨B, 3, none⟩ v3) = W4 at *
  replace F : Five (W4.setCell ⟨B, 4, none⟩ v4) B #[v0, v1, v2, v3, v4, a5, a6, a7] t := F.set (j := 4) (u := v4)
  generalize (W4.setCell ⟨B, 4, none⟩ v4) = W5 at *
  replace F : Five (W5.setCell ⟨B, 5, none⟩ v5) B #[v0, v1, v2, v3, v4, v5, a6, a7] t := F.set (j := 5) (u := v5)
  generalize (W5.setCell ⟨B, 5, none⟩ v5) = W6 at *
  replace F : Five (W6.setCell ⟨B, 6, none⟩ v6) B #[v0, v1, v2, v3, v4, v5, v6, a7] t := F.set (j := 6) (u := v6)
  generalize (W6.setCell ⟨B, 6, none⟩ v6) = W7 at *
  exact F.set (j := 7) (u := v7)
/-- What holds of the writer goes on where only new blocks turn, and where a Spec from Q0 on is written. -/
structure Goes (Q0 : Nat) (P : World → Prop) : Prop where
  below : ∀ W W', P W → Below W.heap.size W W' → P W'
  set : ∀ (W : World) (b j : Nat) (u : Value) (cs : Array Value), P W → Five W b cs 94 → Q0 ≤ b → P (W.setCell ⟨b, j, none⟩ u)
theorem Goes.set8 {Q0 : Nat} {P : World → Prop} (h : Goes Q0 P) {W : World} {B : Nat} {a0 a1 a2 a3 a4 a5 a6 a7 : Value} (v0 v1 v2 v3 v4 v5 v6 v7 : Value) (F : Five W B #[a0, a1, a2, a3, a4, a5, a6, a7] 94) (hp : P W) (hB : Q0 ≤ B) :
    P ((((((((W.setCell ⟨B, 0, none⟩ v0).setCell ⟨B, 1, none⟩ v1).setCell ⟨B, 2, none⟩ v2).setCell ⟨B, 3, none⟩ v3).setCell ⟨B, 4, none⟩ v4).setCell ⟨B, 5, none⟩ v5).setCell ⟨B, 6, none⟩ v6).setCell ⟨B, 7, none⟩ v7) := by
  have p1 := h.set W B 0 v0 _ hp F hB
  replace F : Five (W.setCell ⟨B, 0, none⟩ v0) B #[v0, a1, a2, a3, a4, a5, a6, a7] 94 := F.set (j := 0) (u := v0)
  generalize (W.setCell ⟨B, 0, none⟩ v0) = W1 at *
  have p2 := h.set W1 B 1 v1 _ p1 F hB
  replace F : Five (W1.setCell ⟨B, 1, none⟩ v1) B #[v0, v1, a2, a3, a4, a5, a6, a7] 94 := F.set (j := 1) (u := v1)
  generalize (W1.setCell ⟨B, 1, none⟩ v1) = W2 at *
  have p3 := h.set W2 B 2 v2 _ p2 F hB
  replace F : Five (W2.setCell ⟨B, 2, none⟩ v2) B #[v0, v1, v2, a3, a4, a5, a6, a7] 94 := F.set (j := 2) (u := v2)
  generalize (W2.setCell ⟨B, 2, none⟩ v2) = W3 at *
  have p4 := h.set W3 B 3 v3 _ p3 F hB
  replace F : Five (W3.setCell ⟨B, 3, none⟩ v3) B #[v0, v1, v2, v3, a4, a5, a6, a7] 94 := F.set (j := 3) (u := v3)
  generalize (W3.setCell ⟨B, 3, none⟩ v3) = W4 at *
  have p5 := h.set W4 B 4 v4 _ p4 F hB
  replace F : Five (W4.setCell ⟨B, 4, none⟩ v4) B #[v0, v1, v2, v3, v4, a5, a6, a7] 94 := F.set (j := 4) (u := v4)
  generalize (W4.setCell ⟨B, 4, none⟩ v4) = W5 at *
  have p6 := h.set W5 B 5 v5 _ p5 F hB
  replace F : Five (W5.setCell ⟨B, 5, none⟩ v5) B #[v0, v1, v2, v3, v4, v5, a6, a7] 94 := F.set (j := 5) (u := v5)
  generalize (W5.setCell ⟨B, 5, none⟩ v5) = W6 at *
  have p7 := h.set W6 B 6 v6 _ p6 F hB
  replace F : Five (W6.setCell ⟨B, 6, none⟩ v6) B #[v0, v1, v2, v3, v4, v5, v6, a7] 94 := F.set (j := 6) (u := v6)
  exact h.set _ B 7 v7 _ p7 F hB
theorem Wt.setSpec {w0 W : World} {B g k : Nat} {S C : ByteArray} {av : Value} {by' : Bool} {o : List UInt8} (h : Wt w0 W B g S k av C by' o) {b j : Nat} {cs : Array Value} (F : Five W b cs 94) (hb : B ≤ b) (u : Value) : Wt w0 (W.setCell ⟨b, j, none⟩ u) B g S k av C by' o := by
  obtain ⟨⟨p, v, q⟩, h2, h3⟩ := h
  have hne : g ≠ b := by
    rintro rfl
    have := q.row.symm.trans F.row
    injection this with this
    injection this with _ this
    exact absurd this (by decide)
  have hn2 : v.ownBlock ≠ some b := Lib.ownBlock_ne q.own F.row (by decide)
  refine ⟨⟨p, v, ⟨?_, q.at0, q.at1, ?_, q.ne, q.base, q.ptr⟩⟩, h2.setCell (p := ⟨b, j, none⟩) hb u, h3⟩
  · rw [Below.heap_setCell W ⟨b, j, none⟩ u g hne]
    exact q.row
  · exact q.own.kept (row := some b) ⟨rfl, rfl, rfl, by simp [World.setCell], fun i _ hi => Below.heap_setCell _ _ _ _ (fun e => hi (by simp [e]))⟩ (Or.inr hn2)
theorem Five.fro8 {W : World} {B : Nat} {cs : Array Value} {t : TypeId} (h : Five W B cs t) : W.frozen? ⟨B, 0, none⟩ = false ∧ W.frozen? ⟨B, 1, none⟩ = false ∧ W.frozen? ⟨B, 2, none⟩ = false ∧ W.frozen? ⟨B, 3, none⟩ = false ∧ W.frozen? ⟨B, 4, none⟩ = false ∧ W.frozen? ⟨B, 5, none⟩ = false ∧ W.frozen? ⟨B, 6, none⟩ = false ∧ W.frozen? ⟨B, 7, none⟩ = false :=
  ⟨h.fro 0, h.fro 1, h.fro 2, h.fro 3, h.fro 4, h.fro 5, h.fro 6, h.fro 7⟩
abbrev zs : Array Value := #[.bool false, .bool false, .bool false, .bool false, .bool false, .int .i64 0, .int .i64 0, .int .u8 0]
abbrev sps (m p b a z : Bool) (wd pr : Int) (c : Nat) : Array Value := #[.bool m, .bool p, .bool b, .bool a, .bool z, .int .i64 wd, .int .i64 pr, .int .u8 (c : Int)]
abbrev pcs (m p b a z : Bool) (wd pr : Int) (c : Nat) (sw sp : Bool) (nx : Nat) : Array Value := #[.bool m, .bool p, .bool b, .bool a, .bool z, .int .i64 wd, .int .i64 pr, .int .u8 (c : Int), .bool sw, .bool sp, .int .i64 (nx : Int)]
theorem Goes.two {Q0 : Nat} {P : World → Prop} (h : Goes Q0 P) {W : World} {b : Nat} (j1 j2 : Nat) (u1 u2 : Value) {cs : Array Value} (F : Five W b cs 94) (hp : P W) (hb : Q0 ≤ b) : P ((W.setCell ⟨b, j1, none⟩ u1).setCell ⟨b, j2, none⟩ u2) :=
  h.set _ b j2 u2 _ (h.set W b j1 u1 _ hp F hb) F.set hb

set_option maxRecDepth 100000 in
set_option maxHeartbeats 4000000 in
theorem sized_nn (W : World) (g : Nat) (m p b a z : Bool) (wd pr : Int) (c nx : Nat) (P : World → Prop) (hP : Goes W.heap.size P) (hW : P W) :
    Calls Tryz.prog 143 #[.pointer (some ⟨g, 0, none⟩), .agg (pcs m p b a z wd pr c false false nx)] W fun e w' => e = .returned (.tuple #[.agg (sps m p b a z wd pr c), .int .i64 0]) ∧ P w' := by
  have HP := Lib.hid hP
  have HW := Lib.hid hW
  clear hP hW
  have FB := ((Five.new (W.alloc (.cells (pcs m p b a z wd pr c false false nx) 96)) (sps m p b a z wd pr c) 94).alloc (.cells (sps m p b a z wd pr c) 94))
  rw [World.size_alloc] at FB
  obtain ⟨q0, q1, q2, q3, q4, q5, q6, q7⟩ := spec_cells FB
  have hB : Below W.heap.size W (((W.alloc (.cells (pcs m p b a z wd pr c false false nx) 96)).alloc (.cells (sps m p b a z wd pr c) 94)).alloc (.cells (sps m p b a z wd pr c) 94)) := (((Below.refl _ _).alloc (Nat.le_refl _) _).alloc (by simp) _).alloc (by simp; omega) _
  have HF := Lib.hid (HP.out.below _ _ HW.out hB)
  have HQ := Lib.hid (And.intro (And.intro q0 q1) (And.intro (And.intro q2 q3) (And.intro (And.intro q4 q5) (And.intro q6 q7))))
  clear q0 q1 q2 q3 q4 q5 q6 q7 FB hB
  go_enter Tryz.func143, Tryz.ntmps143
  go_wp2_with fail
  obtain ⟨⟨q0, q1⟩, ⟨q2, q3⟩, ⟨q4, q5⟩, q6, q7⟩ := HQ.out
  exact bodyPost_ret (v := .tuple #[.agg (sps m p b a z wd pr c), .int .i64 0]) (by simp [results, Tryz.results143, go_sem, q0, q1, q2, q3, q4, q5, q6, q7]) rfl ⟨rfl, HF.out⟩

set_option maxRecDepth 100000 in
set_option maxHeartbeats 8000000 in
theorem sized_bad (W : World) (g : Nat) (m p b a z : Bool) (wd pr : Int) (c nx : Nat) (P0 P1 : World → Prop) (hP : Goes W.heap.size P0) (hP1 : Goes W.heap.size P1) (hW : P0 W) (hg : g < W.heap.size) (hA1 : ∀ W', P0 W' → Calls Tryz.prog 191 #[.pointer (some ⟨g, 0, none⟩)] W' fun e w' => e = .returned (.tuple #[.int .i64 0, .int .i64 50]) ∧ P1 w' ∧ Out [g] W' w') (sp : Bool) :
    Calls Tryz.prog 143 #[.pointer (some ⟨g, 0, none⟩), .agg (pcs m p b a z wd pr c true sp nx)] W fun e w' => e = .returned (.tuple #[.agg zs, .int .i64 50]) ∧ P1 w' := by
  have hW3 := ((Five.new W (pcs m p b a z wd pr c true sp nx) 96).alloc (.cells zs 94)).alloc (.cells (sps m p b a z wd pr c) 94)
  have hW4 := ((Five.new (W.alloc (.cells (pcs m p b a z wd pr c true sp nx) 96)) zs 94).alloc (.cells (sps m p b a z wd pr c) 94))
  have hW5 := Five.new ((W.alloc (.cells (pcs m p b a z wd pr c true sp nx) 96)).alloc (.cells zs 94)) (sps m p b a z wd pr c) 94
  have hB : Below W.heap.size W (((W.alloc (.cells (pcs m p b a z wd pr c true sp nx) 96)).alloc (.cells zs 94)).alloc (.cells (sps m p b a z wd pr c) 94)) := (((Below.refl _ _).alloc (Nat.le_refl _) _).alloc (by simp) _).alloc (by simp; omega) _
  rw [World.size_alloc] at hW4
  rw [World.size_alloc, World.size_alloc] at hW5
  have hP3 := hP.below _ _ hW hB
  have hsz : (((W.alloc (.cells (pcs m p b a z wd pr c true sp nx) 96)).alloc (.cells zs 94)).alloc (.cells (sps m p b a z wd pr c) 94)).heap.size = W.heap.size + 1 + 1 + 1 := by simp
  obtain ⟨W3, hq⟩ : ∃ W3, ((W.alloc (.cells (pcs m p b a z wd pr c true sp nx) 96)).alloc (.cells zs 94)).alloc (.cells (sps m p b a z wd pr c) 94) = W3 := ⟨_, rfl⟩
  rw [hq] at hW3 hW4 hW5 hP3 hsz
  obtain ⟨Q, hQ⟩ : ∃ Q, W.heap.size = Q := ⟨_, rfl⟩
  rw [hQ] at hW3 hW4 hW5 hg hsz hP hP1
  have HP := Lib.hid hP
  have HP1 := Lib.hid hP1
  have HA1 := Lib.hid hA1
  have HW3 := Lib.hid hq
  have HQ := Lib.hid hQ
  have FA := Lib.hid hW3
  have FB := Lib.hid hW4
  have FC := Lib.hid hW5
  have HP3 := Lib.hid hP3
  clear hP hW hB hP3 hW3 hW4 hW5 hq hQ hA1 hP1
  go_enter Tryz.func143, Tryz.ntmps143
  go_wp2_with fail
  rw [HW3.out, HQ.out]
  refine (HA1.out _ HP3.out).mono ?_
  rintro e W4 ⟨rfl, hp4, o4⟩
  have hs4 := o4.size
  have FA4 := Lib.hid (o4.five FA.out (by simp; omega))
  have FB4 := Lib.hid (o4.five FB.out (by simp; omega))
  have FC4 := Lib.hid (o4.five FC.out (by simp; omega))
  have HP4 := Lib.hid hp4
  clear hp4 o4 FA FB FC HP3
  obtain ⟨b0, b1, b2, b3, b4, b5, b6, b7⟩ := spec_cells FB4.out
  obtain ⟨f0, f1, f2, f3, f4, f5, f6, f7⟩ := FB4.out.fro8
  go_wp2_with fail
  obtain ⟨q0, q1, q2, q3, q4, q5, q6, q7⟩ := spec_cells (end8 (.bool false) (.bool false) (.bool false) (.bool false) (.bool false) (.int .i64 0) (.int .i64 0) (.int .u8 0) FB4.out)
  exact bodyPost_ret (v := .tuple #[.agg zs, .int .i64 50]) (by simp [results, Tryz.results143, go_sem, q0, q1, q2, q3, q4, q5, q6, q7]) rfl ⟨rfl, HP1.out.set8 _ _ _ _ _ _ _ _ FB4.out HP4.out (by omega)⟩

set_option maxRecDepth 100000 in
set_option maxHeartbeats 8000000 in
theorem sized_yn (W : World) (g : Nat) (m p b a z : Bool) (wd pr : Int) (c nx : Nat) (P0 P1 : World → Prop) (hP : Goes W.heap.size P0) (hP1 : Goes W.heap.size P1) (hW : P0 W) (hg : g < W.heap.size) (F1 : Int) (hF1 : -2000 ≤ F1) (hF2 : F1 ≤ 2000) (hA1 : ∀ W', P0 W' → Calls Tryz.prog 191 #[.pointer (some ⟨g, 0, none⟩)] W' fun e w' => e = .returned (.tuple #[.int .i64 F1, .int .i64 0]) ∧ P1 w' ∧ Out [g] W' w') :
    Calls Tryz.prog 143 #[.pointer (some ⟨g, 0, none⟩), .agg (pcs m p b a z wd pr c true false nx)] W fun e w' => e = .returned (.tuple #[.agg (sps (m || decide (F1 < 0)) p b a z (max F1 (-F1)) pr c), .int .i64 0]) ∧ P1 w' := by
  have hW3 := ((Five.new W (pcs m p b a z wd pr c true false nx) 96).alloc (.cells zs 94)).alloc (.cells (sps m p b a z wd pr c) 94)
  have hW4 := ((Five.new (W.alloc (.cells (pcs m p b a z wd pr c true false nx) 96)) zs 94).alloc (.cells (sps m p b a z wd pr c) 94))
  have hW5 := Five.new ((W.alloc (.cells (pcs m p b a z wd pr c true false nx) 96)).alloc (.cells zs 94)) (sps m p b a z wd pr c) 94
  have hB : Below W.heap.size W (((W.alloc (.cells (pcs m p b a z wd pr c true false nx) 96)).alloc (.cells zs 94)).alloc (.cells (sps m p b a z wd pr c) 94)) := (((Below.refl _ _).alloc (Nat.le_refl _) _).alloc (by simp) _).alloc (by simp; omega) _
  rw [World.size_alloc] at hW4
  rw [World.size_alloc, World.size_alloc] at hW5
  have hP3 := hP.below _ _ hW hB
  have hsz : (((W.alloc (.cells (pcs m p b a z wd pr c true false nx) 96)).alloc (.cells zs 94)).alloc (.cells (sps m p b a z wd pr c) 94)).heap.size = W.heap.size + 1 + 1 + 1 := by simp
  obtain ⟨W3, hq⟩ : ∃ W3, ((W.alloc (.cells (pcs m p b a z wd pr c true false nx) 96)).alloc (.cells zs 94)).alloc (.cells (sps m p b a z wd pr c) 94) = W3 := ⟨_, rfl⟩
  rw [hq] at hW3 hW4 hW5 hP3 hsz
  obtain ⟨Q, hQ⟩ : ∃ Q, W.heap.size = Q := ⟨_, rfl⟩
  rw [hQ] at hW3 hW4 hW5 hg hsz hP hP1
  have HP := Lib.hid hP
  have HP1 := Lib.hid hP1
  have HA1 := Lib.hid hA1
  have HW3 := Lib.hid hq
  have HQ := Lib.hid hQ
  have FA := Lib.hid hW3
  have FB := Lib.hid hW4
  have FC := Lib.hid hW5
  have HP3 := Lib.hid hP3
  clear hP hW hB hP3 hW3 hW4 hW5 hq hQ hA1 hP1
  go_enter Tryz.func143, Tryz.ntmps143
  go_wp2_with fail
  rw [HW3.out, HQ.out]
  refine (HA1.out _ HP3.out).mono ?_
  rintro e W4 ⟨rfl, hp4, o4⟩
  have hs4 := o4.size
  have FA4 := Lib.hid (o4.five FA.out (by simp; omega))
  have FB4 := Lib.hid (o4.five FB.out (by simp; omega))
  have FC4 := Lib.hid (o4.five FC.out (by simp; omega))
  have HP4 := Lib.hid hp4
  clear hp4 o4 FA FB FC HP3
  obtain ⟨a0, a1, a2, a3, a4, a5, a6, a7, a8, a9, a10⟩ := FA4.out.eleven.1
  obtain ⟨b0, b1, b2, b3, b4, b5, b6, b7⟩ := spec_cells FB4.out
  obtain ⟨f0, f1, f2, f3, f4, f5, f6, f7⟩ := FB4.out.fro8
  obtain ⟨c0, c1, c2, c3, c4, c5, c6, c7⟩ := spec_cells FC4.out
  obtain ⟨h0, h1, h2, h3, h4, h5, h6, h7⟩ := FC4.out.fro8
  have hwr : IntKind.i64.wrap (-F1) = -F1 := by rw [IntKind.wrap_i64]; omega
  clear a0 a1 a2 a3 a4 a5 a6 a7 a8 a10
  cases m
  · go_wp2_with fail
    have F5 : Five ((W4.setCell ⟨Q + 1 + 1, 5, none⟩ (.int .i64 (max F1 (-F1)))).setCell ⟨Q + 1 + 1, 0, none⟩ (.bool (decide (F1 < 0)))) (Q + 1) zs 94 := ((FB4.out.other (by omega)).other (by omega))
    obtain ⟨q0, q1, q2, q3, q4, q5, q6, q7⟩ := spec_cells (end8 (.bool (decide (F1 < 0))) (.bool p) (.bool b) (.bool a) (.bool z) (.int .i64 (max F1 (-F1))) (.int .i64 pr) (.int .u8 (c : Int)) F5)
    exact bodyPost_ret (v := .tuple #[.agg #[.bool (decide (F1 < 0)), .bool p, .bool b, .bool a, .bool z, .int .i64 (max F1 (-F1)), .int .i64 pr, .int .u8 (c : Int)], .int .i64 0]) (by simp [results, Tryz.results143, go_sem, q0, q1, q2, q3, q4, q5, q6, q7]) rfl ⟨by first | rfl | simp, HP1.out.set8 _ _ _ _ _ _ _ _ F5 (HP1.out.two 5 0 _ _ FC4.out HP4.out (by omega)) (by omega)⟩
  · go_wp2_with fail
    have F5 : Five ((W4.setCell ⟨Q + 1 + 1, 5, none⟩ (.int .i64 (max F1 (-F1)))).setCell ⟨Q + 1 + 1, 0, none⟩ (.bool true)) (Q + 1) zs 94 := ((FB4.out.other (by omega)).other (by omega))
    obtain ⟨q0, q1, q2, q3, q4, q5, q6, q7⟩ := spec_cells (end8 (.bool true) (.bool p) (.bool b) (.bool a) (.bool z) (.int .i64 (max F1 (-F1))) (.int .i64 pr) (.int .u8 (c : Int)) F5)
    exact bodyPost_ret (v := .tuple #[.agg #[.bool true, .bool p, .bool b, .bool a, .bool z, .int .i64 (max F1 (-F1)), .int .i64 pr, .int .u8 (c : Int)], .int .i64 0]) (by simp [results, Tryz.results143, go_sem, q0, q1, q2, q3, q4, q5, q6, q7]) rfl ⟨by first | rfl | simp, HP1.out.set8 _ _ _ _ _ _ _ _ F5 (HP1.out.two 5 0 _ _ FC4.out HP4.out (by omega)) (by omega)⟩

set_option maxRecDepth 100000 in
set_option maxHeartbeats 8000000 in
theorem sized_ny (W : World) (g : Nat) (m p b a z : Bool) (wd pr : Int) (c nx : Nat) (P0 P2 : World → Prop) (hP : Goes W.heap.size P0) (hP2 : Goes W.heap.size P2) (hW : P0 W) (hg : g < W.heap.size) (F2 : Int) (hA2 : ∀ W', P0 W' → Calls Tryz.prog 191 #[.pointer (some ⟨g, 0, none⟩)] W' fun e w' => e = .returned (.tuple #[.int .i64 F2, .int .i64 0]) ∧ P2 w' ∧ Out [g] W' w') :
    Calls Tryz.prog 143 #[.pointer (some ⟨g, 0, none⟩), .agg (pcs m p b a z wd pr c false true nx)] W fun e w' => e = .returned (.tuple #[.agg (sps m p b a z wd (max F2 (-1)) c), .int .i64 0]) ∧ P2 w' := by
  have hW3 := ((Five.new W (pcs m p b a z wd pr c false true nx) 96).alloc (.cells zs 94)).alloc (.cells (sps m p b a z wd pr c) 94)
  have hW4 := ((Five.new (W.alloc (.cells (pcs m p b a z wd pr c false true nx) 96)) zs 94).alloc (.cells (sps m p b a z wd pr c) 94))
  have hW5 := Five.new ((W.alloc (.cells (pcs m p b a z wd pr c false true nx) 96)).alloc (.cells zs 94)) (sps m p b a z wd pr c) 94
  have hB : Below W.heap.size W (((W.alloc (.cells (pcs m p b a z wd pr c false true nx) 96)).alloc (.cells zs 94)).alloc (.cells (sps m p b a z wd pr c) 94)) := (((Below.refl _ _).alloc (Nat.le_refl _) _).alloc (by simp) _).alloc (by simp; omega) _
  rw [World.size_alloc] at hW4
  rw [World.size_alloc, World.size_alloc] at hW5
  have hP3 := hP.below _ _ hW hB
  have hsz : (((W.alloc (.cells (pcs m p b a z wd pr c false true nx) 96)).alloc (.cells zs 94)).alloc (.cells (sps m p b a z wd pr c) 94)).heap.size = W.heap.size + 1 + 1 + 1 := by simp
  obtain ⟨W3, hq⟩ : ∃ W3, ((W.alloc (.cells (pcs m p b a z wd pr c false true nx) 96)).alloc (.cells zs 94)).alloc (.cells (sps m p b a z wd pr c) 94) = W3 := ⟨_, rfl⟩
  rw [hq] at hW3 hW4 hW5 hP3 hsz
  obtain ⟨Q, hQ⟩ : ∃ Q, W.heap.size = Q := ⟨_, rfl⟩
  rw [hQ] at hW3 hW4 hW5 hg hsz hP hP2
  have HP := Lib.hid hP
  have HP2 := Lib.hid hP2
  have HA2 := Lib.hid hA2
  have HW3 := Lib.hid hq
  have HQ := Lib.hid hQ
  have FA := Lib.hid hW3
  have FB := Lib.hid hW4
  have FC := Lib.hid hW5
  have HP3 := Lib.hid hP3
  clear hP hW hB hP3 hW3 hW4 hW5 hq hQ hA2 hP2
  go_enter Tryz.func143, Tryz.ntmps143
  go_wp2_with fail
  rw [HW3.out, HQ.out]
  refine (HA2.out _ HP3.out).mono ?_
  rintro e W4 ⟨rfl, hp4, o4⟩
  have hs4 := o4.size
  have FB4 := Lib.hid (o4.five FB.out (by simp; omega))
  have FC4 := Lib.hid (o4.five FC.out (by simp; omega))
  have HP4 := Lib.hid hp4
  clear hp4 o4 FA FB FC HP3
  obtain ⟨b0, b1, b2, b3, b4, b5, b6, b7⟩ := spec_cells FB4.out
  obtain ⟨f0, f1, f2, f3, f4, f5, f6, f7⟩ := FB4.out.fro8
  obtain ⟨c0, c1, c2, c3, c4, c5, c6, c7⟩ := spec_cells FC4.out
  obtain ⟨h0, h1, h2, h3, h4, h5, h6, h7⟩ := FC4.out.fro8
  go_wp2_with fail
  have F5 : Five (W4.setCell ⟨Q + 1 + 1, 6, none⟩ (.int .i64 (max F2 (-1)))) (Q + 1) zs 94 := (FB4.out.other (by omega))
  obtain ⟨q0, q1, q2, q3, q4, q5, q6, q7⟩ := spec_cells (end8 (.bool m) (.bool p) (.bool b) (.bool a) (.bool z) (.int .i64 wd) (.int .i64 (max F2 (-1))) (.int .u8 (c : Int)) F5)
  exact bodyPost_ret (v := .tuple #[.agg #[.bool m, .bool p, .bool b, .bool a, .bool z, .int .i64 wd, .int .i64 (max F2 (-1)), .int .u8 (c : Int)], .int .i64 0]) (by simp [results, Tryz.results143, go_sem, q0, q1, q2, q3, q4, q5, q6, q7]) rfl ⟨by first | rfl | simp, HP2.out.set8 _ _ _ _ _ _ _ _ F5 (HP2.out.set W4 (Q + 1 + 1) 6 _ _ HP4.out FC4.out (by omega)) (by omega)⟩

set_option maxRecDepth 100000 in
set_option maxHeartbeats 8000000 in
theorem sized_nbad (W : World) (g : Nat) (m p b a z : Bool) (wd pr : Int) (c nx : Nat) (P0 P2 : World → Prop) (hP : Goes W.heap.size P0) (hP2 : Goes W.heap.size P2) (hW : P0 W) (hg : g < W.heap.size) (hA2 : ∀ W', P0 W' → Calls Tryz.prog 191 #[.pointer (some ⟨g, 0, none⟩)] W' fun e w' => e = .returned (.tuple #[.int .i64 0, .int .i64 50]) ∧ P2 w' ∧ Out [g] W' w') :
    Calls Tryz.prog 143 #[.pointer (some ⟨g, 0, none⟩), .agg (pcs m p b a z wd pr c false true nx)] W fun e w' => e = .returned (.tuple #[.agg zs, .int .i64 50]) ∧ P2 w' := by
  have hW3 := ((Five.new W (pcs m p b a z wd pr c false true nx) 96).alloc (.cells zs 94)).alloc (.cells (sps m p b a z wd pr c) 94)
  have hW4 := ((Five.new (W.alloc (.cells (pcs m p b a z wd pr c false true nx) 96)) zs 94).alloc (.cells (sps m p b a z wd pr c) 94))
  have hW5 := Five.new ((W.alloc (.cells (pcs m p b a z wd pr c false true nx) 96)).alloc (.cells zs 94)) (sps m p b a z wd pr c) 94
  have hB : Below W.heap.size W (((W.alloc (.cells (pcs m p b a z wd pr c false true nx) 96)).alloc (.cells zs 94)).alloc (.cells (sps m p b a z wd pr c) 94)) := (((Below.refl _ _).alloc (Nat.le_refl _) _).alloc (by simp) _).alloc (by simp; omega) _
  rw [World.size_alloc] at hW4
  rw [World.size_alloc, World.size_alloc] at hW5
  have hP3 := hP.below _ _ hW hB
  have hsz : (((W.alloc (.cells (pcs m p b a z wd pr c false true nx) 96)).alloc (.cells zs 94)).alloc (.cells (sps m p b a z wd pr c) 94)).heap.size = W.heap.size + 1 + 1 + 1 := by simp
  obtain ⟨W3, hq⟩ : ∃ W3, ((W.alloc (.cells (pcs m p b a z wd pr c false true nx) 96)).alloc (.cells zs 94)).alloc (.cells (sps m p b a z wd pr c) 94) = W3 := ⟨_, rfl⟩
  rw [hq] at hW3 hW4 hW5 hP3 hsz
  obtain ⟨Q, hQ⟩ : ∃ Q, W.heap.size = Q := ⟨_, rfl⟩
  rw [hQ] at hW3 hW4 hW5 hg hsz hP hP2
  have HP := Lib.hid hP
  have HP2 := Lib.hid hP2
  have HA2 := Lib.hid hA2
  have HW3 := Lib.hid hq
  have HQ := Lib.hid hQ
  have FA := Lib.hid hW3
  have FB := Lib.hid hW4
  have FC := Lib.hid hW5
  have HP3 := Lib.hid hP3
  clear hP hW hB hP3 hW3 hW4 hW5 hq hQ hA2 hP2
  go_enter Tryz.func143, Tryz.ntmps143
  go_wp2_with fail
  rw [HW3.out, HQ.out]
  refine (HA2.out _ HP3.out).mono ?_
  rintro e W4 ⟨rfl, hp4, o4⟩
  have hs4 := o4.size
  have FB4 := Lib.hid (o4.five FB.out (by simp; omega))
  have FC4 := Lib.hid (o4.five FC.out (by simp; omega))
  have HP4 := Lib.hid hp4
  clear hp4 o4 FA FB FC HP3
  obtain ⟨b0, b1, b2, b3, b4, b5, b6, b7⟩ := spec_cells FB4.out
  obtain ⟨f0, f1, f2, f3, f4, f5, f6, f7⟩ := FB4.out.fro8
  obtain ⟨c0, c1, c2, c3, c4, c5, c6, c7⟩ := spec_cells FC4.out
  obtain ⟨h0, h1, h2, h3, h4, h5, h6, h7⟩ := FC4.out.fro8
  go_wp2_with fail
  have F5 : Five W4 (Q + 1) zs 94 := FB4.out
  obtain ⟨q0, q1, q2, q3, q4, q5, q6, q7⟩ := spec_cells (end8 (.bool false) (.bool false) (.bool false) (.bool false) (.bool false) (.int .i64 0) (.int .i64 0) (.int .u8 0) F5)
  exact bodyPost_ret (v := .tuple #[.agg #[.bool false, .bool false, .bool false, .bool false, .bool false, .int .i64 0, .int .i64 0, .int .u8 0], .int .i64 50]) (by simp [results, Tryz.results143, go_sem, q0, q1, q2, q3, q4, q5, q6, q7]) rfl ⟨by first | rfl | simp, HP2.out.set8 _ _ _ _ _ _ _ _ F5 HP4.out (by omega)⟩

set_option maxRecDepth 100000 in
set_option maxHeartbeats 8000000 in
theorem sized_yy (W : World) (g : Nat) (m p b a z : Bool) (wd pr : Int) (c nx : Nat) (P0 P1 P2 : World → Prop) (hP : Goes W.heap.size P0) (hP1 : Goes W.heap.size P1) (hP2 : Goes W.heap.size P2) (hW : P0 W) (hg : g < W.heap.size) (F1 : Int) (hF1 : -2000 ≤ F1) (hF2 : F1 ≤ 2000) (hA1 : ∀ W', P0 W' → Calls Tryz.prog 191 #[.pointer (some ⟨g, 0, none⟩)] W' fun e w' => e = .returned (.tuple #[.int .i64 F1, .int .i64 0]) ∧ P1 w' ∧ Out [g] W' w') (F2 : Int) (hA2 : ∀ W', P1 W' → Calls Tryz.prog 191 #[.pointer (some ⟨g, 0, none⟩)] W' fun e w' => e = .returned (.tuple #[.int .i64 F2, .int .i64 0]) ∧ P2 w' ∧ Out [g] W' w') :
    Calls Tryz.prog 143 #[.pointer (some ⟨g, 0, none⟩), .agg (pcs m p b a z wd pr c true true nx)] W fun e w' => e = .returned (.tuple #[.agg (sps (m || decide (F1 < 0)) p b a z (max F1 (-F1)) (max F2 (-1)) c), .int .i64 0]) ∧ P2 w' := by
  have hW3 := ((Five.new W (pcs m p b a z wd pr c true true nx) 96).alloc (.cells zs 94)).alloc (.cells (sps m p b a z wd pr c) 94)
  have hW4 := ((Five.new (W.alloc (.cells (pcs m p b a z wd pr c true true nx) 96)) zs 94).alloc (.cells (sps m p b a z wd pr c) 94))
  have hW5 := Five.new ((W.alloc (.cells (pcs m p b a z wd pr c true true nx) 96)).alloc (.cells zs 94)) (sps m p b a z wd pr c) 94
  have hB : Below W.heap.size W (((W.alloc (.cells (pcs m p b a z wd pr c true true nx) 96)).alloc (.cells zs 94)).alloc (.cells (sps m p b a z wd pr c) 94)) := (((Below.refl _ _).alloc (Nat.le_refl _) _).alloc (by simp) _).alloc (by simp; omega) _
  rw [World.size_alloc] at hW4
  rw [World.size_alloc, World.size_alloc] at hW5
  have hP3 := hP.below _ _ hW hB
  have hsz : (((W.alloc (.cells (pcs m p b a z wd pr c true true nx) 96)).alloc (.cells zs 94)).alloc (.cells (sps m p b a z wd pr c) 94)).heap.size = W.heap.size + 1 + 1 + 1 := by simp
  obtain ⟨W3, hq⟩ : ∃ W3, ((W.alloc (.cells (pcs m p b a z wd pr c true true nx) 96)).alloc (.cells zs 94)).alloc (.cells (sps m p b a z wd pr c) 94) = W3 := ⟨_, rfl⟩
  rw [hq] at hW3 hW4 hW5 hP3 hsz
  obtain ⟨Q, hQ⟩ : ∃ Q, W.heap.size = Q := ⟨_, rfl⟩
  rw [hQ] at hW3 hW4 hW5 hg hsz hP hP1 hP2
  have HP := Lib.hid hP
  have HP1 := Lib.hid hP1
  have HP2 := Lib.hid hP2
  have HA1 := Lib.hid hA1
  have HA2 := Lib.hid hA2
  have HW3 := Lib.hid hq
  have HQ := Lib.hid hQ
  have FA := Lib.hid hW3
  have FB := Lib.hid hW4
  have FC := Lib.hid hW5
  have HP3 := Lib.hid hP3
  clear hP hW hB hP3 hW3 hW4 hW5 hq hQ hA1 hA2 hP1 hP2
  go_enter Tryz.func143, Tryz.ntmps143
  go_wp2_with fail
  rw [HW3.out, HQ.out]
  refine (HA1.out _ HP3.out).mono ?_
  rintro e W4 ⟨rfl, hp4, o4⟩
  have hs4 := o4.size
  have FA4 := Lib.hid (o4.five FA.out (by simp; omega))
  have FB4 := Lib.hid (o4.five FB.out (by simp; omega))
  have FC4 := Lib.hid (o4.five FC.out (by simp; omega))
  have HP4 := Lib.hid hp4
  clear hp4 o4 FA FB FC HP3
  obtain ⟨a0, a1, a2, a3, a4, a5, a6, a7, a8, a9, a10⟩ := FA4.out.eleven.1
  obtain ⟨b0, b1, b2, b3, b4, b5, b6, b7⟩ := spec_cells FB4.out
  obtain ⟨f0, f1, f2, f3, f4, f5, f6, f7⟩ := FB4.out.fro8
  obtain ⟨c0, c1, c2, c3, c4, c5, c6, c7⟩ := spec_cells FC4.out
  obtain ⟨h0, h1, h2, h3, h4, h5, h6, h7⟩ := FC4.out.fro8
  have hwr : IntKind.i64.wrap (-F1) = -F1 := by rw [IntKind.wrap_i64]; omega
  clear a0 a1 a2 a3 a4 a5 a6 a7 a8 a10
  cases m
  · go_wp2_with fail
    have FB5 := Lib.hid (show Five ((W4.setCell ⟨Q + 1 + 1, 5, none⟩ (.int .i64 (max F1 (-F1)))).setCell ⟨Q + 1 + 1, 0, none⟩ (.bool (decide (F1 < 0)))) (Q + 1) zs 94 from ((FB4.out.other (by omega)).other (by omega)))
    have FC5 := Lib.hid (show Five ((W4.setCell ⟨Q + 1 + 1, 5, none⟩ (.int .i64 (max F1 (-F1)))).setCell ⟨Q + 1 + 1, 0, none⟩ (.bool (decide (F1 < 0)))) (Q + 1 + 1) #[.bool (decide (F1 < 0)), .bool p, .bool b, .bool a, .bool z, .int .i64 (max F1 (-F1)), .int .i64 pr, .int .u8 (c : Int)] 94 from ((FC4.out.set (j := 5) (u := .int .i64 (max F1 (-F1)))).set (j := 0) (u := .bool (decide (F1 < 0)))))
    have HP5 := Lib.hid (HP1.out.two 5 0 (.int .i64 (max F1 (-F1))) (.bool (decide (F1 < 0))) FC4.out HP4.out (by omega))
    have hs5 : ((W4.setCell ⟨Q + 1 + 1, 5, none⟩ (.int .i64 (max F1 (-F1)))).setCell ⟨Q + 1 + 1, 0, none⟩ (.bool (decide (F1 < 0)))).heap.size = W4.heap.size := by simp [World.setCell]
    obtain ⟨W5, hW5⟩ : ∃ W5, ((W4.setCell ⟨Q + 1 + 1, 5, none⟩ (.int .i64 (max F1 (-F1)))).setCell ⟨Q + 1 + 1, 0, none⟩ (.bool (decide (F1 < 0)))) = W5 := ⟨_, rfl⟩
    rw [hW5] at FB5 FC5 HP5 hs5 ⊢
    clear hW5 b0 b1 b2 b3 b4 b5 b6 b7 f0 f1 f2 f3 f4 f5 f6 f7 c0 c1 c2 c3 c4 c5 c6 c7 h0 h1 h2 h3 h4 h5 h6 h7 FB4 FC4 HP4 FA4 a9
    refine (HA2.out _ HP5.out).mono ?_
    rintro e W6 ⟨rfl, hp6, o6⟩
    have hs6 := o6.size
    have FB6 := Lib.hid (o6.five FB5.out (by simp; omega))
    have FC6 := Lib.hid (o6.five FC5.out (by simp; omega))
    have HP6 := Lib.hid hp6
    clear hp6 o6 FB5 FC5 HP5
    obtain ⟨b0, b1, b2, b3, b4, b5, b6, b7⟩ := spec_cells FB6.out
    obtain ⟨f0, f1, f2, f3, f4, f5, f6, f7⟩ := FB6.out.fro8
    obtain ⟨c0, c1, c2, c3, c4, c5, c6, c7⟩ := spec_cells FC6.out
    obtain ⟨h0, h1, h2, h3, h4, h5, h6, h7⟩ := FC6.out.fro8
    go_wp2_with fail
    have F5 : Five (W6.setCell ⟨Q + 1 + 1, 6, none⟩ (.int .i64 (max F2 (-1)))) (Q + 1) zs 94 := (FB6.out.other (by omega))
    obtain ⟨q0, q1, q2, q3, q4, q5, q6, q7⟩ := spec_cells (end8 (.bool (decide (F1 < 0))) (.bool p) (.bool b) (.bool a) (.bool z) (.int .i64 (max F1 (-F1))) (.int .i64 (max F2 (-1))) (.int .u8 (c : Int)) F5)
    exact bodyPost_ret (v := .tuple #[.agg #[.bool (decide (F1 < 0)), .bool p, .bool b, .bool a, .bool z, .int .i64 (max F1 (-F1)), .int .i64 (max F2 (-1)), .int .u8 (c : Int)], .int .i64 0]) (by simp [results, Tryz.results143, go_sem, q0, q1, q2, q3, q4, q5, q6, q7]) rfl ⟨by first | rfl | simp, HP2.out.set8 _ _ _ _ _ _ _ _ F5 (HP2.out.set W6 (Q + 1 + 1) 6 _ _ HP6.out FC6.out (by omega)) (by omega)⟩
  · go_wp2_with fail
    have FB5 := Lib.hid (show Five ((W4.setCell ⟨Q + 1 + 1, 5, none⟩ (.int .i64 (max F1 (-F1)))).setCell ⟨Q + 1 + 1, 0, none⟩ (.bool true)) (Q + 1) zs 94 from ((FB4.out.other (by omega)).other (by omega)))
    have FC5 := Lib.hid (show Five ((W4.setCell ⟨Q + 1 + 1, 5, none⟩ (.int .i64 (max F1 (-F1)))).setCell ⟨Q + 1 + 1, 0, none⟩ (.bool true)) (Q + 1 + 1) #[.bool true, .bool p, .bool b, .bool a, .bool z, .int .i64 (max F1 (-F1)), .int .i64 pr, .int .u8 (c : Int)] 94 from ((FC4.out.set (j := 5) (u := .int .i64 (max F1 (-F1)))).set (j := 0) (u := .bool true)))
    have HP5 := Lib.hid (HP1.out.two 5 0 (.int .i64 (max F1 (-F1))) (.bool true) FC4.out HP4.out (by omega))
    have hs5 : ((W4.setCell ⟨Q + 1 + 1, 5, none⟩ (.int .i64 (max F1 (-F1)))).setCell ⟨Q + 1 + 1, 0, none⟩ (.bool true)).heap.size = W4.heap.size := by simp [World.setCell]
    obtain ⟨W5, hW5⟩ : ∃ W5, ((W4.setCell ⟨Q + 1 + 1, 5, none⟩ (.int .i64 (max F1 (-F1)))).setCell ⟨Q + 1 + 1, 0, none⟩ (.bool true)) = W5 := ⟨_, rfl⟩
    rw [hW5] at FB5 FC5 HP5 hs5 ⊢
    clear hW5 b0 b1 b2 b3 b4 b5 b6 b7 f0 f1 f2 f3 f4 f5 f6 f7 c0 c1 c2 c3 c4 c5 c6 c7 h0 h1 h2 h3 h4 h5 h6 h7 FB4 FC4 HP4 FA4 a9
    refine (HA2.out _ HP5.out).mono ?_
    rintro e W6 ⟨rfl, hp6, o6⟩
    have hs6 := o6.size
    have FB6 := Lib.hid (o6.five FB5.out (by simp; omega))
    have FC6 := Lib.hid (o6.five FC5.out (by simp; omega))
    have HP6 := Lib.hid hp6
    clear hp6 o6 FB5 FC5 HP5
    obtain ⟨b0, b1, b2, b3, b4, b5, b6, b7⟩ := spec_cells FB6.out
    obtain ⟨f0, f1, f2, f3, f4, f5, f6, f7⟩ := FB6.out.fro8
    obtain ⟨c0, c1, c2, c3, c4, c5, c6, c7⟩ := spec_cells FC6.out
    obtain ⟨h0, h1, h2, h3, h4, h5, h6, h7⟩ := FC6.out.fro8
    go_wp2_with fail
    have F5 : Five (W6.setCell ⟨Q + 1 + 1, 6, none⟩ (.int .i64 (max F2 (-1)))) (Q + 1) zs 94 := (FB6.out.other (by omega))
    obtain ⟨q0, q1, q2, q3, q4, q5, q6, q7⟩ := spec_cells (end8 (.bool true) (.bool p) (.bool b) (.bool a) (.bool z) (.int .i64 (max F1 (-F1))) (.int .i64 (max F2 (-1))) (.int .u8 (c : Int)) F5)
    exact bodyPost_ret (v := .tuple #[.agg #[.bool true, .bool p, .bool b, .bool a, .bool z, .int .i64 (max F1 (-F1)), .int .i64 (max F2 (-1)), .int .u8 (c : Int)], .int .i64 0]) (by simp [results, Tryz.results143, go_sem, q0, q1, q2, q3, q4, q5, q6, q7]) rfl ⟨by first | rfl | simp, HP2.out.set8 _ _ _ _ _ _ _ _ F5 (HP2.out.set W6 (Q + 1 + 1) 6 _ _ HP6.out FC6.out (by omega)) (by omega)⟩

set_option maxRecDepth 100000 in
set_option maxHeartbeats 8000000 in
theorem sized_ybad (W : World) (g : Nat) (m p b a z : Bool) (wd pr : Int) (c nx : Nat) (P0 P1 P2 : World → Prop) (hP : Goes W.heap.size P0) (hP1 : Goes W.heap.size P1) (hP2 : Goes W.heap.size P2) (hW : P0 W) (hg : g < W.heap.size) (F1 : Int) (hF1 : -2000 ≤ F1) (hF2 : F1 ≤ 2000) (hA1 : ∀ W', P0 W' → Calls Tryz.prog 191 #[.pointer (some ⟨g, 0, none⟩)] W' fun e w' => e = .returned (.tuple #[.int .i64 F1, .int .i64 0]) ∧ P1 w' ∧ Out [g] W' w') (hA2 : ∀ W', P1 W' → Calls Tryz.prog 191 #[.pointer (some ⟨g, 0, none⟩)] W' fun e w' => e = .returned (.tuple #[.int .i64 0, .int .i64 50]) ∧ P2 w' ∧ Out [g] W' w') :
    Calls Tryz.prog 143 #[.pointer (some ⟨g, 0, none⟩), .agg (pcs m p b a z wd pr c true true nx)] W fun e w' => e = .returned (.tuple #[.agg zs, .int .i64 50]) ∧ P2 w' := by
  have hW3 := ((Five.new W (pcs m p b a z wd pr c true true nx) 96).alloc (.cells zs 94)).alloc (.cells (sps m p b a z wd pr c) 94)
  have hW4 := ((Five.new (W.alloc (.cells (pcs m p b a z wd pr c true true nx) 96)) zs 94).alloc (.cells (sps m p b a z wd pr c) 94))
  have hW5 := Five.new ((W.alloc (.cells (pcs m p b a z wd pr c true true nx) 96)).alloc (.cells zs 94)) (sps m p b a z wd pr c) 94
  have hB : Below W.heap.size W (((W.alloc (.cells (pcs m p b a z wd pr c true true nx) 96)).alloc (.cells zs 94)).alloc (.cells (sps m p b a z wd pr c) 94)) := (((Below.refl _ _).alloc (Nat.le_refl _) _).alloc (by simp) _).alloc (by simp; omega) _
  rw [World.size_alloc] at hW4
  rw [World.size_alloc, World.size_alloc] at hW5
  have hP3 := hP.below _ _ hW hB
  have hsz : (((W.alloc (.cells (pcs m p b a z wd pr c true true nx) 96)).alloc (.cells zs 94)).alloc (.cells (sps m p b a z wd pr c) 94)).heap.size = W.heap.size + 1 + 1 + 1 := by simp
  obtain ⟨W3, hq⟩ : ∃ W3, ((W.alloc (.cells (pcs m p b a z wd pr c true true nx) 96)).alloc (.cells zs 94)).alloc (.cells (sps m p b a z wd pr c) 94) = W3 := ⟨_, rfl⟩
  rw [hq] at hW3 hW4 hW5 hP3 hsz
  obtain ⟨Q, hQ⟩ : ∃ Q, W.heap.size = Q := ⟨_, rfl⟩
  rw [hQ] at hW3 hW4 hW5 hg hsz hP hP1 hP2
  have HP := Lib.hid hP
  have HP1 := Lib.hid hP1
  have HP2 := Lib.hid hP2
  have HA1 := Lib.hid hA1
  have HA2 := Lib.hid hA2
  have HW3 := Lib.hid hq
  have HQ := Lib.hid hQ
  have FA := Lib.hid hW3
  have FB := Lib.hid hW4
  have FC := Lib.hid hW5
  have HP3 := Lib.hid hP3
  clear hP hW hB hP3 hW3 hW4 hW5 hq hQ hA1 hA2 hP1 hP2
  go_enter Tryz.func143, Tryz.ntmps143
  go_wp2_with fail
  rw [HW3.out, HQ.out]
  refine (HA1.out _ HP3.out).mono ?_
  rintro e W4 ⟨rfl, hp4, o4⟩
  have hs4 := o4.size
  have FA4 := Lib.hid (o4.five FA.out (by simp; omega))
  have FB4 := Lib.hid (o4.five FB.out (by simp; omega))
  have FC4 := Lib.hid (o4.five FC.out (by simp; omega))
  have HP4 := Lib.hid hp4
  clear hp4 o4 FA FB FC HP3
  obtain ⟨a0, a1, a2, a3, a4, a5, a6, a7, a8, a9, a10⟩ := FA4.out.eleven.1
  obtain ⟨b0, b1, b2, b3, b4, b5, b6, b7⟩ := spec_cells FB4.out
  obtain ⟨f0, f1, f2, f3, f4, f5, f6, f7⟩ := FB4.out.fro8
  obtain ⟨c0, c1, c2, c3, c4, c5, c6, c7⟩ := spec_cells FC4.out
  obtain ⟨h0, h1, h2, h3, h4, h5, h6, h7⟩ := FC4.out.fro8
  have hwr : IntKind.i64.wrap (-F1) = -F1 := by rw [IntKind.wrap_i64]; omega
  clear a0 a1 a2 a3 a4 a5 a6 a7 a8 a10
  cases m
  · go_wp2_with fail
    have FB5 := Lib.hid (show Five ((W4.setCell ⟨Q + 1 + 1, 5, none⟩ (.int .i64 (max F1 (-F1)))).setCell ⟨Q + 1 + 1, 0, none⟩ (.bool (decide (F1 < 0)))) (Q + 1) zs 94 from ((FB4.out.other (by omega)).other (by omega)))
    have FC5 := Lib.hid (show Five ((W4.setCell ⟨Q + 1 + 1, 5, none⟩ (.int .i64 (max F1 (-F1)))).setCell ⟨Q + 1 + 1, 0, none⟩ (.bool (decide (F1 < 0)))) (Q + 1 + 1) #[.bool (decide (F1 < 0)), .bool p, .bool b, .bool a, .bool z, .int .i64 (max F1 (-F1)), .int .i64 pr, .int .u8 (c : Int)] 94 from ((FC4.out.set (j := 5) (u := .int .i64 (max F1 (-F1)))).set (j := 0) (u := .bool (decide (F1 < 0)))))
    have HP5 := Lib.hid (HP1.out.two 5 0 (.int .i64 (max F1 (-F1))) (.bool (decide (F1 < 0))) FC4.out HP4.out (by omega))
    have hs5 : ((W4.setCell ⟨Q + 1 + 1, 5, none⟩ (.int .i64 (max F1 (-F1)))).setCell ⟨Q + 1 + 1, 0, none⟩ (.bool (decide (F1 < 0)))).heap.size = W4.heap.size := by simp [World.setCell]
    obtain ⟨W5, hW5⟩ : ∃ W5, ((W4.setCell ⟨Q + 1 + 1, 5, none⟩ (.int .i64 (max F1 (-F1)))).setCell ⟨Q + 1 + 1, 0, none⟩ (.bool (decide (F1 < 0)))) = W5 := ⟨_, rfl⟩
    rw [hW5] at FB5 FC5 HP5 hs5 ⊢
    clear hW5 b0 b1 b2 b3 b4 b5 b6 b7 f0 f1 f2 f3 f4 f5 f6 f7 c0 c1 c2 c3 c4 c5 c6 c7 h0 h1 h2 h3 h4 h5 h6 h7 FB4 FC4 HP4 FA4 a9
    refine (HA2.out _ HP5.out).mono ?_
    rintro e W6 ⟨rfl, hp6, o6⟩
    have hs6 := o6.size
    have FB6 := Lib.hid (o6.five FB5.out (by simp; omega))
    have FC6 := Lib.hid (o6.five FC5.out (by simp; omega))
    have HP6 := Lib.hid hp6
    clear hp6 o6 FB5 FC5 HP5
    obtain ⟨b0, b1, b2, b3, b4, b5, b6, b7⟩ := spec_cells FB6.out
    obtain ⟨f0, f1, f2, f3, f4, f5, f6, f7⟩ := FB6.out.fro8
    obtain ⟨c0, c1, c2, c3, c4, c5, c6, c7⟩ := spec_cells FC6.out
    obtain ⟨h0, h1, h2, h3, h4, h5, h6, h7⟩ := FC6.out.fro8
    go_wp2_with fail
    have F5 : Five W6 (Q + 1) zs 94 := FB6.out
    obtain ⟨q0, q1, q2, q3, q4, q5, q6, q7⟩ := spec_cells (end8 (.bool false) (.bool false) (.bool false) (.bool false) (.bool false) (.int .i64 0) (.int .i64 0) (.int .u8 0) F5)
    exact bodyPost_ret (v := .tuple #[.agg #[.bool false, .bool false, .bool false, .bool false, .bool false, .int .i64 0, .int .i64 0, .int .u8 0], .int .i64 50]) (by simp [results, Tryz.results143, go_sem, q0, q1, q2, q3, q4, q5, q6, q7]) rfl ⟨by first | rfl | simp, HP2.out.set8 _ _ _ _ _ _ _ _ F5 HP6.out (by omega)⟩
  · go_wp2_with fail
    have FB5 := Lib.hid (show Five ((W4.setCell ⟨Q + 1 + 1, 5, none⟩ (.int .i64 (max F1 (-F1)))).setCell ⟨Q + 1 + 1, 0, none⟩ (.bool true)) (Q + 1) zs 94 from ((FB4.out.other (by omega)).other (by omega)))
    have FC5 := Lib.hid (show Five ((W4.setCell ⟨Q + 1 + 1, 5, none⟩ (.int .i64 (max F1 (-F1)))).setCell ⟨Q + 1 + 1, 0, none⟩ (.bool true)) (Q + 1 + 1) #[.bool true, .bool p, .bool b, .bool a, .bool z, .int .i64 (max F1 (-F1)), .int .i64 pr, .int .u8 (c : Int)] 94 from ((FC4.out.set (j := 5) (u := .int .i64 (max F1 (-F1)))).set (j := 0) (u := .bool true)))
    have HP5 := Lib.hid (HP1.out.two 5 0 (.int .i64 (max F1 (-F1))) (.bool true) FC4.out HP4.out (by omega))
    have hs5 : ((W4.setCell ⟨Q + 1 + 1, 5, none⟩ (.int .i64 (max F1 (-F1)))).setCell ⟨Q + 1 + 1, 0, none⟩ (.bool true)).heap.size = W4.heap.size := by simp [World.setCell]
    obtain ⟨W5, hW5⟩ : ∃ W5, ((W4.setCell ⟨Q + 1 + 1, 5, none⟩ (.int .i64 (max F1 (-F1)))).setCell ⟨Q + 1 + 1, 0, none⟩ (.bool true)) = W5 := ⟨_, rfl⟩
    rw [hW5] at FB5 FC5 HP5 hs5 ⊢
    clear hW5 b0 b1 b2 b3 b4 b5 b6 b7 f0 f1 f2 f3 f4 f5 f6 f7 c0 c1 c2 c3 c4 c5 c6 c7 h0 h1 h2 h3 h4 h5 h6 h7 FB4 FC4 HP4 FA4 a9
    refine (HA2.out _ HP5.out).mono ?_
    rintro e W6 ⟨rfl, hp6, o6⟩
    have hs6 := o6.size
    have FB6 := Lib.hid (o6.five FB5.out (by simp; omega))
    have FC6 := Lib.hid (o6.five FC5.out (by simp; omega))
    have HP6 := Lib.hid hp6
    clear hp6 o6 FB5 FC5 HP5
    obtain ⟨b0, b1, b2, b3, b4, b5, b6, b7⟩ := spec_cells FB6.out
    obtain ⟨f0, f1, f2, f3, f4, f5, f6, f7⟩ := FB6.out.fro8
    obtain ⟨c0, c1, c2, c3, c4, c5, c6, c7⟩ := spec_cells FC6.out
    obtain ⟨h0, h1, h2, h3, h4, h5, h6, h7⟩ := FC6.out.fro8
    go_wp2_with fail
    have F5 : Five W6 (Q + 1) zs 94 := FB6.out
    obtain ⟨q0, q1, q2, q3, q4, q5, q6, q7⟩ := spec_cells (end8 (.bool false) (.bool false) (.bool false) (.bool false) (.bool false) (.int .i64 0) (.int .i64 0) (.int .u8 0) F5)
    exact bodyPost_ret (v := .tuple #[.agg #[.bool false, .bool false, .bool false, .bool false, .bool false, .int .i64 0, .int .i64 0, .int .u8 0], .int .i64 50]) (by simp [results, Tryz.results143, go_sem, q0, q1, q2, q3, q4, q5, q6, q7]) rfl ⟨by first | rfl | simp, HP2.out.set8 _ _ _ _ _ _ _ _ F5 HP6.out (by omega)⟩
end Go.Proofs.YtddfigbpckhfbaaGreatDoor
