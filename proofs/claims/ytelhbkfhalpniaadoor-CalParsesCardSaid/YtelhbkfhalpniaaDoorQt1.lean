/- Several texts in one (Plain: the calendar: days ahead of a year, of a month, the date of a time and what follows of it (layer 13); Contracts of layer 13: isTime, divide, daysAhead, isLeap, daysWithin; Contracts of layer 13: Of, at a time and at none; Contracts of layer 13: At, of any date; Contracts of layer 13: what its laws' world holds; a builder written; padded; Contracts of layer 13: the numbers that letters stand for; Contracts of layer 13: the numbers that letters stand for). -/
import Derived.Test.YtelhbkfhalpniaaDoorRows
import Derived.WalkKit
import Derived.WalkSpells
import Derived.WalkLawsBesides
import Derived.Lib.Hide
import Derived.LoopTactic
import Derived.Lib.SmallJoins
import Derived.Laws.ResultCell
import Derived.Deep.RegionWith
import Derived.Deep.QuietTactic
import Derived.Test.YtelhbkfhalpniaaDoorShelf
import Derived.Lib.ItoaLen
import Derived.Lib.AppendIntMem
import Derived.Deep.RegionHeld3
namespace Go.Proofs.YtelhbkfhalpniaaDoor
/-- Days from the first of the year 1 on to the first of a year. -/
def dA (y : Int) : Int := 365 * (y - 1) + (y - 1) / 4 - (y - 1) / 100 + (y - 1) / 400
/-- Has a year 366 days? -/
def leapZ (y : Int) : Bool := (y % 4 == 0) && (!(y % 100 == 0) || y % 400 == 0)
theorem dA_succ (y : Int) : dA (y + 1) = dA y + (if leapZ y then 366 else 365) := by
  unfold dA leapZ
  by_cases h1 : y % 4 = 0 <;> by_cases h2 : y % 100 = 0 <;> by_cases h3 : y % 400 = 0 <;> simp [h1, h2, h3] <;> omega
theorem dA_up (y : Int) (n : Nat) : dA y + 365 * n ≤ dA (y + n) := by
  unfold dA; omega
theorem dA_mono {a b : Int} (h : a ≤ b) : dA a ≤ dA b := by
  unfold dA; omega
theorem dA_age (y : Int) : dA (y + 400) = dA y + 146097 := by
  unfold dA; omega
theorem leapZ_age (y : Int) : leapZ (y + 400) = leapZ y := by
  unfold leapZ
  rw [show (y + 400) % 4 = y % 4 by omega, show (y + 400) % 100 = y % 100 by omega, show (y + 400) % 400 = y % 400 by omega]
theorem year_uniq {a b d : Int} (ha : dA a ≤ d) (ha' : d < dA (a + 1)) (hb : dA b ≤ d) (hb' : d < dA (b + 1)) : a = b := by
  rcases Int.lt_trichotomy a b with h | h | h
  · have := dA_mono (show a + 1 ≤ b by omega); omega
  · exact h
  · have := dA_mono (show b + 1 ≤ a by omega); omega
/-- Days of a year ahead of a month of it (13: all of them). -/
def ahZ (m : Int) : Int := if m = 1 then 0 else if m = 2 then 31 else if m = 3 then 59 else if m = 4 then 90 else if m = 5 then 120 else if m = 6 then 151 else if m = 7 then 181 else if m = 8 then 212 else if m = 9 then 243 else if m = 10 then 273 else if m = 11 then 304 else if m = 12 then 334 else 365
def dW (l : Bool) (m : Int) : Int := ahZ m + (if 2 < m ∧ l = true then 1 else 0)
/-- A date's numbers. -/
structure DateZ where
  y : Int
  m : Int
  d : Int
  hh : Int
  mm : Int
  ss : Int
  wk : Int
  yd : Int
/-- The date of a time. -/
structure DateIs (t : Int) (x : DateZ) : Prop where
  low : dA x.y ≤ (t + 62135596800) / 86400
  high : (t + 62135596800) / 86400 < dA (x.y + 1)
  m1 : 1 ≤ x.m
  m2 : x.m ≤ 12
  yd : x.yd = (t + 62135596800) / 86400 - dA x.y + 1
  ahead : dW (leapZ x.y) x.m < x.yd
  behind : x.yd ≤ dW (leapZ x.y) (x.m + 1)
  d : x.d = x.yd - dW (leapZ x.y) x.m
  hh : x.hh = (t + 62135596800) % 86400 / 3600
  mm : x.mm = (t + 62135596800) % 86400 % 3600 / 60
  ss : x.ss = (t + 62135596800) % 86400 % 60
  wk : x.wk = ((t + 62135596800) / 86400 + 1) % 7
theorem dW_mono {l : Bool} {a b : Int} (h1 : 1 ≤ a) (h : a ≤ b) (h2 : b ≤ 13) : dW l a ≤ dW l b := by
  have ha : a = 1 ∨ a = 2 ∨ a = 3 ∨ a = 4 ∨ a = 5 ∨ a = 6 ∨ a = 7 ∨ a = 8 ∨ a = 9 ∨ a = 10 ∨ a = 11 ∨ a = 12 ∨ a = 13 := by omega
  have hb : b = 1 ∨ b = 2 ∨ b = 3 ∨ b = 4 ∨ b = 5 ∨ b = 6 ∨ b = 7 ∨ b = 8 ∨ b = 9 ∨ b = 10 ∨ b = 11 ∨ b = 12 ∨ b = 13 := by omega
  revert h
  cases l <;> rcases ha with rfl | rfl | rfl | rfl | rfl | rfl | rfl | rfl | rfl | rfl | rfl | rfl | rfl <;> rcases hb with rfl | rfl | rfl | rfl | rfl | rfl | rfl | rfl | rfl | rfl | rfl | rfl | rfl <;> decide
theorem month_uniq {l : Bool} {a b n : Int} (ha : 1 ≤ a) (ha' : a ≤ 12) (hb : 1 ≤ b) (hb' : b ≤ 12) (h1 : dW l a < n) (h2 : n ≤ dW l (a + 1)) (h3 : dW l b < n) (h4 : n ≤ dW l (b + 1)) : a = b := by
  rcases Int.lt_trichotomy a b with h | h | h
  · have := dW_mono (l := l) (a := a + 1) (b := b) (by omega) (by omega) (by omega); omega
  · exact h
  · have := dW_mono (l := l) (a := b + 1) (b := a) (by omega) (by omega) (by omega); omega
theorem DateIs.uniq {t : Int} {x z : DateZ} (h : DateIs t x) (k : DateIs t z) : x = z := by
  have hy := year_uniq h.low h.high k.low k.high
  have hyd : x.yd = z.yd := by rw [h.yd, k.yd, hy]
  have hm : x.m = z.m := month_uniq (l := leapZ x.y) (n := x.yd) h.m1 h.m2 k.m1 k.m2 h.ahead h.behind (by rw [hyd, hy]; exact k.ahead) (by rw [hyd, hy]; exact k.behind)
  have hd : x.d = z.d := by rw [h.d, k.d, hyd, hm, hy]
  have e1 := h.hh.trans k.hh.symm
  have e2 := h.mm.trans k.mm.symm
  have e3 := h.ss.trans k.ss.symm
  have e4 := h.wk.trans k.wk.symm
  cases x; cases z
  simp only at hy hyd hm hd e1 e2 e3 e4
  subst hy hyd hm hd e1 e2 e3 e4
  rfl
theorem DateIs.age {t : Int} {x z : DateZ} (h : DateIs t x) (k : DateIs (t + 146097 * 86400) z) : z = { x with y := x.y + 400 } := by
  have e : (t + 146097 * 86400 + 62135596800) / 86400 = (t + 62135596800) / 86400 + 146097 := by omega
  have e' : (t + 146097 * 86400 + 62135596800) % 86400 = (t + 62135596800) % 86400 := by omega
  refine k.uniq (z := { x with y := x.y + 400 }) ⟨?_, ?_, h.m1, h.m2, ?_, ?_, ?_, ?_, ?_, ?_, ?_, ?_⟩
  · have := h.low; show dA (x.y + 400) ≤ _; rw [dA_age, e]; omega
  · have := h.high; show _ < dA (x.y + 400 + 1); rw [show x.y + 400 + 1 = (x.y + 1) + 400 by omega, dA_age, e]; omega
  · show x.yd = _; rw [h.yd, e]; show _ = _ - dA (x.y + 400) + 1; rw [dA_age]; omega
  · show dW (leapZ (x.y + 400)) x.m < x.yd; rw [leapZ_age]; exact h.ahead
  · show x.yd ≤ dW (leapZ (x.y + 400)) (x.m + 1); rw [leapZ_age]; exact h.behind
  · show x.d = x.yd - dW (leapZ (x.y + 400)) x.m; rw [leapZ_age]; exact h.d
  · show x.hh = _; rw [e']; exact h.hh
  · show x.mm = _; rw [e']; exact h.mm
  · show x.ss = _; rw [e']; exact h.ss
  · show x.wk = _; rw [e, h.wk]; omega
/-- The next day. -/
structure NextDay (x z : DateZ) : Prop where
  wk : z.wk = (x.wk + 1) % 7
  hh : z.hh = x.hh
  mm : z.mm = x.mm
  ss : z.ss = x.ss
  way : (z.d = x.d + 1 ∧ z.m = x.m ∧ z.y = x.y ∧ z.yd = x.yd + 1) ∨ (z.d = 1 ∧ 28 ≤ x.d ∧ z.m = x.m + 1 ∧ z.y = x.y ∧ z.yd = x.yd + 1) ∨ (z.d = 1 ∧ 28 ≤ x.d ∧ z.m = 1 ∧ x.m = 12 ∧ z.y = x.y + 1 ∧ z.yd = 1 ∧ 365 ≤ x.yd)
theorem dW_len {l : Bool} {m : Int} (h1 : 1 ≤ m) (h2 : m ≤ 12) : 28 ≤ dW l (m + 1) - dW l m := by
  have hb : m = 1 ∨ m = 2 ∨ m = 3 ∨ m = 4 ∨ m = 5 ∨ m = 6 ∨ m = 7 ∨ m = 8 ∨ m = 9 ∨ m = 10 ∨ m = 11 ∨ m = 12 := by omega
  cases l <;> rcases hb with rfl | rfl | rfl | rfl | rfl | rfl | rfl | rfl | rfl | rfl | rfl | rfl <;> decide
theorem dW_13 (l : Bool) : dW l 13 = if l then 366 else 365 := by cases l <;> rfl
theorem dW_1 (l : Bool) : dW l 1 = 0 := by cases l <;> rfl
theorem DateIs.next {t : Int} {x z : DateZ} (h : DateIs t x) (k : DateIs (t + 86400) z) : NextDay x z := by
  have e : (t + 86400 + 62135596800) / 86400 = (t + 62135596800) / 86400 + 1 := by omega
  have e' : (t + 86400 + 62135596800) % 86400 = (t + 62135596800) % 86400 := by omega
  have hl := dW_len (l := leapZ x.y) h.m1 h.m2
  have h1 := h.low
  have h2 := h.high
  have h3 := h.yd
  have h4 := h.behind
  have h5 := h.d
  have h6 := h.ahead
  have k5 := dA_succ x.y
  by_cases hE : x.yd = dW (leapZ x.y) (x.m + 1)
  · by_cases h12 : x.m = 12
    · have hlast : (t + 62135596800) / 86400 + 1 = dA (x.y + 1) := by
        have h13 := dW_13 (leapZ x.y)
        rw [h12] at hE
        rw [show (12 : Int) + 1 = 13 from rfl] at hE
        rw [k5, ← h13]; omega
      have hlen : 365 ≤ x.yd := by
        rw [hE, h12, show (12 : Int) + 1 = 13 from rfl, dW_13]; split <;> omega
      have := k.uniq (z := ⟨x.y + 1, 1, 1, x.hh, x.mm, x.ss, (x.wk + 1) % 7, 1⟩) ⟨by show dA (x.y + 1) ≤ _; rw [e]; omega, by show _ < dA (x.y + 1 + 1); have := dA_succ (x.y + 1); rw [e, hlast, this]; split <;> omega, by show (1 : Int) ≤ 1; omega, by show (1 : Int) ≤ 12; omega, by show (1 : Int) = _ - dA (x.y + 1) + 1; rw [e]; omega, by show dW (leapZ (x.y + 1)) 1 < 1; rw [dW_1]; omega, by show 1 ≤ dW (leapZ (x.y + 1)) (1 + 1); have := dW_len (l := leapZ (x.y + 1)) (m := 1) (by omega) (by omega); rw [dW_1] at this; omega, by show 1 = 1 - dW (leapZ (x.y + 1)) 1; rw [dW_1]; omega, by show x.hh = _; rw [e']; exact h.hh, by show x.mm = _; rw [e']; exact h.mm, by show x.ss = _; rw [e']; exact h.ss, by show (x.wk + 1) % 7 = _; rw [e, h.wk]; omega⟩
      subst this
      exact ⟨rfl, rfl, rfl, rfl, Or.inr (Or.inr ⟨rfl, by omega, rfl, h12, rfl, rfl, hlen⟩)⟩
    · have h12' : x.m ≤ 11 := by have := h.m2; omega
      have hm1 := h.m1
      have hle : dW (leapZ x.y) (x.m + 1 + 1) ≤ dW (leapZ x.y) 13 := dW_mono (by omega) (by omega) (by omega)
      have hl' := dW_len (l := leapZ x.y) (m := x.m + 1) (by omega) (by omega)
      have hle' : dW (leapZ x.y) (x.m + 1) ≤ dW (leapZ x.y) 13 := dW_mono (by omega) (by omega) (by omega)
      have h13 := dW_13 (leapZ x.y)
      have := k.uniq (z := ⟨x.y, x.m + 1, 1, x.hh, x.mm, x.ss, (x.wk + 1) % 7, x.yd + 1⟩) ⟨by show dA x.y ≤ _; rw [e]; omega, by show _ < dA (x.y + 1); rw [e, k5, ← h13]; omega, by show (1 : Int) ≤ x.m + 1; omega, by show x.m + 1 ≤ 12; omega, by show x.yd + 1 = _ - dA x.y + 1; rw [e]; omega, by show dW (leapZ x.y) (x.m + 1) < x.yd + 1; omega, by show x.yd + 1 ≤ dW (leapZ x.y) (x.m + 1 + 1); omega, by show 1 = x.yd + 1 - dW (leapZ x.y) (x.m + 1); omega, by show x.hh = _; rw [e']; exact h.hh, by show x.mm = _; rw [e']; exact h.mm, by show x.ss = _; rw [e']; exact h.ss, by show (x.wk + 1) % 7 = _; rw [e, h.wk]; omega⟩
      subst this
      exact ⟨rfl, rfl, rfl, rfl, Or.inr (Or.inl ⟨rfl, by omega, rfl, rfl, rfl⟩)⟩
  · have hm1 := h.m1
    have hm2 := h.m2
    have hle' : dW (leapZ x.y) (x.m + 1) ≤ dW (leapZ x.y) 13 := dW_mono (by omega) (by omega) (by omega)
    have h13 := dW_13 (leapZ x.y)
    have := k.uniq (z := ⟨x.y, x.m, x.d + 1, x.hh, x.mm, x.ss, (x.wk + 1) % 7, x.yd + 1⟩) ⟨by show dA x.y ≤ _; rw [e]; omega, by show _ < dA (x.y + 1); rw [e, k5, ← h13]; omega, hm1, hm2, by show x.yd + 1 = _ - dA x.y + 1; rw [e]; omega, by show dW (leapZ x.y) x.m < x.yd + 1; omega, by show x.yd + 1 ≤ dW (leapZ x.y) (x.m + 1); omega, by show x.d + 1 = x.yd + 1 - dW (leapZ x.y) x.m; omega, by show x.hh = _; rw [e']; exact h.hh, by show x.mm = _; rw [e']; exact h.mm, by show x.ss = _; rw [e']; exact h.ss, by show (x.wk + 1) % 7 = _; rw [e, h.wk]; omega⟩
    subst this
    exact ⟨rfl, rfl, rfl, rfl, Or.inl ⟨rfl, rfl, rfl, rfl⟩⟩
/-- The time of six numbers. -/
def atT (y m d hh mm ss : Int) : Int := -62135596800 + (dA (y + (m - 1) / 12) + dW (leapZ (y + (m - 1) / 12)) (m - 12 * ((m - 1) / 12)) + d - 1) * 86400 + hh * 3600 + mm * 60 + ss
theorem DateIs.back {t : Int} {x : DateZ} (h : DateIs t x) : atT x.y x.m x.d x.hh x.mm x.ss = t := by
  have h1 := h.m1
  have h2 := h.m2
  have h3 := h.d
  have h4 := h.yd
  have e : (x.m - 1) / 12 = 0 := by omega
  unfold atT
  rw [e, show x.y + 0 = x.y by omega, show x.m - 12 * 0 = x.m by omega, h.hh, h.mm, h.ss]
  omega
theorem dW_bounds {l : Bool} {m : Int} (h1 : 1 ≤ m) (h2 : m ≤ 13) : 0 ≤ dW l m ∧ dW l m ≤ 366 := by
  have a := dW_mono (l := l) (a := 1) (b := m) (by omega) h1 h2
  have b := dW_mono (l := l) (a := m) (b := 13) h1 h2 (by omega)
  rw [dW_1] at a
  rw [dW_13] at b
  refine ⟨a, Int.le_trans b ?_⟩
  split <;> omega
theorem DateIs.bounds {t : Int} {x : DateZ} (h : DateIs t x) (h1 : -62135596800 ≤ t) (h2 : t ≤ 253402300799) : 1 ≤ x.y ∧ x.y ≤ 9999 ∧ 1 ≤ x.m ∧ x.m ≤ 12 ∧ 1 ≤ x.d ∧ x.d ≤ 31 ∧ 0 ≤ x.hh ∧ x.hh < 24 ∧ 0 ≤ x.mm ∧ x.mm < 60 ∧ 0 ≤ x.ss ∧ x.ss < 60 ∧ 0 ≤ x.wk ∧ x.wk < 7 ∧ 1 ≤ x.yd ∧ x.yd ≤ 366 := by
  have a1 := h.low
  have a2 := h.high
  have y1 : 1 ≤ x.y := by
    rcases Int.lt_or_le x.y 1 with hc | hc
    · have := dA_mono (show x.y + 1 ≤ 1 by omega)
      have e : dA 1 = 0 := by decide
      omega
    · exact hc
  have y2 : x.y ≤ 9999 := by
    rcases Int.lt_or_le 9999 x.y with hc | hc
    · have := dA_mono (show 10000 ≤ x.y by omega)
      have e : dA 10000 = 3652059 := by decide
      omega
    · exact hc
  have a3 := h.d
  have a4 := h.ahead
  have a5 := h.behind
  have a6 := h.m1
  have a7 := h.m2
  have b1 := dW_bounds (l := leapZ x.y) (m := x.m) (by omega) (by omega)
  have b2 := dW_bounds (l := leapZ x.y) (m := x.m + 1) (by omega) (by omega)
  have b3 : dW (leapZ x.y) (x.m + 1) - dW (leapZ x.y) x.m ≤ 31 := by
    have hb : x.m = 1 ∨ x.m = 2 ∨ x.m = 3 ∨ x.m = 4 ∨ x.m = 5 ∨ x.m = 6 ∨ x.m = 7 ∨ x.m = 8 ∨ x.m = 9 ∨ x.m = 10 ∨ x.m = 11 ∨ x.m = 12 := by omega
    generalize leapZ x.y = l
    generalize x.m = m at hb
    cases l <;> rcases hb with rfl | rfl | rfl | rfl | rfl | rfl | rfl | rfl | rfl | rfl | rfl | rfl <;> decide
  have c1 := h.hh
  have c2 := h.mm
  have c3 := h.ss
  have c4 := h.wk
  refine ⟨y1, y2, a6, a7, ?_, ?_, ?_, ?_, ?_, ?_, ?_, ?_, ?_, ?_, ?_, ?_⟩ <;> omega
theorem year_ex (n : Nat) : ∃ y : Int, dA y ≤ n ∧ (n : Int) < dA (y + 1) := by
  induction n with
  | zero => exact ⟨1, by decide, by decide⟩
  | succ n ih =>
    obtain ⟨y, h1, h2⟩ := ih
    by_cases h : ((n + 1 : Nat) : Int) < dA (y + 1)
    · exact ⟨y, by omega, h⟩
    · refine ⟨y + 1, by omega, ?_⟩
      have h3 := dA_up (y + 1) 1
      have h4 : dA (y + 1 + (1 : Nat)) = dA (y + 1 + 1) := rfl
      omega
theorem month_ex (l : Bool) (n : Int) (h1 : 1 ≤ n) (h2 : n ≤ dW l 13) : ∃ m : Int, 1 ≤ m ∧ m ≤ 12 ∧ dW l m < n ∧ n ≤ dW l (m + 1) := by
  have key : ∀ k : Nat, k ≤ 12 → n ≤ dW l ((k : Int) + 1) → ∃ m : Int, 1 ≤ m ∧ m ≤ 12 ∧ dW l m < n ∧ n ≤ dW l (m + 1) := by
    intro k
    induction k with
    | zero =>
      intro _ h
      have e : dW l (((0 : Nat) : Int) + 1) = 0 := by cases l <;> rfl
      omega
    | succ k ih =>
      intro hk h
      by_cases hc : n ≤ dW l ((k : Int) + 1)
      · exact ih (by omega) hc
      · refine ⟨(k : Int) + 1, by omega, by omega, by omega, ?_⟩
        rw [show (k : Int) + 1 + 1 = ((k + 1 : Nat) : Int) + 1 by omega]
        exact h
  exact key 12 (by omega) h2
theorem date_ex (t : Int) (h : -62135596800 ≤ t) : ∃ x, DateIs t x := by
  obtain ⟨n, hn⟩ : ∃ n : Nat, (t + 62135596800) / 86400 = n := ⟨((t + 62135596800) / 86400).toNat, by omega⟩
  obtain ⟨y, h1, h2⟩ := year_ex n
  have h3 := dA_succ y
  have h4 := dW_13 (leapZ y)
  obtain ⟨m, m1, m2, m3, m4⟩ := month_ex (leapZ y) ((n : Int) - dA y + 1) (by omega) (by omega)
  exact ⟨⟨y, m, (n : Int) - dA y + 1 - dW (leapZ y) m, (t + 62135596800) % 86400 / 3600, (t + 62135596800) % 86400 % 3600 / 60, (t + 62135596800) % 86400 % 60, ((t + 62135596800) / 86400 + 1) % 7, (n : Int) - dA y + 1⟩, by rw [hn]; exact h1, by rw [hn]; exact h2, m1, m2, by rw [hn], m3, m4, rfl, rfl, rfl, rfl, rfl⟩
theorem DateIs.ex : DateIs 951782400 ⟨2000, 2, 29, 0, 0, 0, 2, 60⟩ := by
  refine ⟨?_, ?_, ?_, ?_, ?_, ?_, ?_, ?_, ?_, ?_, ?_, ?_⟩ <;> decide
end Go.Proofs.YtelhbkfhalpniaaDoor

namespace Go.Proofs.YtelhbkfhalpniaaDoor
open Go.RowKit Go.Lib

theorem cal_drewN {B : Nat} {a w : World} (h : Below B a w) (n : Nat) : Below B a (w.drewN n) := h.trans ⟨rfl, rfl, rfl, Nat.le_refl _, fun _ _ => rfl⟩
set_option maxRecDepth 100000 in
theorem isTime_any (t : Int) (w : World) : Calls Tryd.prog 20 #[.int .i64 t] w fun e w' => e = .returned (.bool (decide (-62135596800 ≤ t ∧ t ≤ 253402300799))) ∧ w = w' := by
  go_enter Tryd.func20, Tryd.ntmps20
  go_wp2_with fail
  all_goals
    go_ret
    refine ⟨?_, rfl⟩
    congr 1
  · show Value.bool (decide (t ≤ 253402300799)) = _
    congr 1
    rw [decide_eq_decide]
    omega
  · show Value.bool false = _
    rw [decide_eq_false_iff_not.2 (by omega), Bool.false_and]
theorem fdiv_lit (a b : Int) (hb : b = 4 ∨ b = 100 ∨ b = 400 ∨ b = 12) : (if a.tmod b < 0 then a.tdiv b - 1 else a.tdiv b) = a / b := by
  rcases Int.lt_or_le a 0 with h | h
  · obtain ⟨n, rfl⟩ : ∃ n : Int, a = -n := ⟨-a, by omega⟩
    have hn : 0 ≤ n := by omega
    rw [Int.neg_tmod, Int.neg_tdiv, Int.tmod_eq_emod_of_nonneg hn, Int.tdiv_eq_ediv_of_nonneg hn]
    rcases hb with rfl | rfl | rfl | rfl <;> split <;> omega
  · rw [Int.tmod_eq_emod_of_nonneg h, Int.tdiv_eq_ediv_of_nonneg h]
    rcases hb with rfl | rfl | rfl | rfl <;> split <;> omega
set_option maxRecDepth 100000 in
theorem divide_any (a b : Int) (w : World) (hb : b = 4 ∨ b = 100 ∨ b = 400 ∨ b = 12) (ha : -4611686018427387904 ≤ a) (ha' : a ≤ 4611686018427387904) : Calls Tryd.prog 42 #[.int .i64 a, .int .i64 b] w fun e w' => e = .returned (.int .i64 (a / b)) ∧ w = w' := by
  have hf := fdiv_lit a b hb
  have hb0 : b ≠ 0 := by omega
  have hd : -4611686018427387904 ≤ a.tdiv b ∧ a.tdiv b ≤ 4611686018427387904 := by
    rcases Int.lt_or_le a 0 with h | h
    · obtain ⟨n, rfl⟩ : ∃ n : Int, a = -n := ⟨-a, by omega⟩
      rw [Int.neg_tdiv, Int.tdiv_eq_ediv_of_nonneg (by omega)]
      rcases hb with rfl | rfl | rfl | rfl <;> omega
    · rw [Int.tdiv_eq_ediv_of_nonneg h]
      rcases hb with rfl | rfl | rfl | rfl <;> omega
  obtain ⟨q, hq⟩ : ∃ q, a.tdiv b = q := ⟨_, rfl⟩
  obtain ⟨r, hr⟩ : ∃ r, a.tmod b = r := ⟨_, rfl⟩
  go_enter Tryd.func42, Tryd.ntmps42
  go_wp2_with fail
  all_goals
    go_ret
    refine ⟨?_, rfl⟩
  · rw [hr, if_pos (by assumption), hq] at hf
    rw [← hf]
    rfl
  · rw [hr, if_neg (by omega), hq] at hf
    rw [← hf]
    rfl
theorem tmod_zero (y n : Int) : y.tmod n = 0 ↔ y % n = 0 := by
  rw [← Int.dvd_iff_tmod_eq_zero, ← Int.dvd_iff_emod_eq_zero]
set_option maxRecDepth 100000 in
theorem isLeap_any (y : Int) (w : World) : Calls Tryd.prog 43 #[.int .i64 y] w fun e w' => e = .returned (.bool (leapZ y)) ∧ w = w' := by
  have h4 := tmod_zero y 4
  have h100 := tmod_zero y 100
  have h400 := tmod_zero y 400
  obtain ⟨a, ha⟩ : ∃ a, y.tmod 4 = a := ⟨_, rfl⟩
  obtain ⟨b, hb⟩ : ∃ b, y.tmod 100 = b := ⟨_, rfl⟩
  obtain ⟨c, hc⟩ : ∃ c, y.tmod 400 = c := ⟨_, rfl⟩
  rw [ha] at h4
  rw [hb] at h100
  rw [hc] at h400
  have H4 := Lib.hid h4
  have H100 := Lib.hid h100
  have H400 := Lib.hid h400
  clear h4 h100 h400
  go_enter Tryd.func43, Tryd.ntmps43
  go_wp2_with fail
  all_goals
    go_ret
    refine ⟨?_, rfl⟩
    unfold leapZ
  · rename_i p q
    rw [beq_iff_eq.2 (H4.out.1 p), beq_iff_eq.2 (H100.out.1 q), Bool.true_and, Bool.not_true, Bool.false_or]
    have e : (y % 400 == 0) = (c == 0) := by rw [Bool.eq_iff_iff, beq_iff_eq, beq_iff_eq]; exact H400.out.symm
    rw [e]
    rfl
  · rename_i p q
    rw [beq_iff_eq.2 (H4.out.1 p), beq_eq_false_iff_ne.2 (fun h => q (H100.out.2 h)), Bool.true_and, Bool.not_false, Bool.true_or]
    rfl
  · rename_i p
    rw [beq_eq_false_iff_ne.2 (fun h => p (H4.out.2 h)), Bool.false_and]
    rfl
set_option maxRecDepth 100000 in
theorem daysAhead_any (y : Int) (w : World) (h0 : -10000000 ≤ y) (h1 : y ≤ 10000000) : Calls Tryd.prog 21 #[.int .i64 y] w fun e w' => e = .returned (.int .i64 (dA y)) ∧ w = w' := by
  have C4 := Lib.hid (divide_any (y - 1) 4 w (by omega) (by omega) (by omega))
  have C100 := Lib.hid (divide_any (y - 1) 100 w (by omega) (by omega) (by omega))
  have C400 := Lib.hid (divide_any (y - 1) 400 w (by omega) (by omega) (by omega))
  go_enter Tryd.func21, Tryd.ntmps21
  go_wp2_with fail
  refine C4.out.mono ?_
  rintro e w' ⟨rfl, rfl⟩
  go_wp2_with fail
  refine C100.out.mono ?_
  rintro e w' ⟨rfl, rfl⟩
  go_wp2_with fail
  refine C400.out.mono ?_
  rintro e w' ⟨rfl, rfl⟩
  go_wp2_with fail
  go_ret
  exact ⟨rfl, rfl⟩
/-- Days of a year ahead of each month, as the table has them. -/
def ahTab : List Int := [0, 31, 59, 90, 120, 151, 181, 212, 243, 273, 304, 334]
/-- The table in memory. -/
def AhMem (w : World) : Prop := ∀ i : Nat, i < 12 → w.cell? ⟨0, i, none⟩ = some (.int .i64 (ahZ (i + 1)))
theorem cell_below {w w' : World} {B : Nat} {p : Addr} {v : Value} (h : w.cell? p = some v) (hb : Below B w w') (hB : w.heap.size ≤ B) : w'.cell? p = some v := by
  have hl : p.block < w.heap.size := by
    rcases Nat.lt_or_ge p.block w.heap.size with hc | hc
    · exact hc
    · rw [World.cell?, Array.getElem?_eq_none hc] at h
      cases h
  rw [hb.cell (by omega)]
  exact h
theorem AhMem.below {w w' : World} {B : Nat} (h : AhMem w) (hb : Below B w w') (hB : w.heap.size ≤ B) : AhMem w' := fun i hi => cell_below (h i hi) hb hB
set_option maxRecDepth 100000 in
theorem daysWithin_any (y m : Int) (w : World) (hA : AhMem w) (h0 : 1 ≤ m) (h1 : m ≤ 12) : Calls Tryd.prog 22 #[.int .i64 y, .int .i64 m] w fun e w' => e = .returned (.int .i64 (dW (leapZ y) m)) ∧ w = w' := by
  have C := Lib.hid (isLeap_any y w)
  obtain ⟨k, rfl⟩ : ∃ k : Nat, m = (k : Int) + 1 := ⟨(m - 1).toNat, by omega⟩
  have hc := hA k (by omega)
  have hz : 0 ≤ ahZ ((k : Int) + 1) ∧ ahZ ((k : Int) + 1) ≤ 365 := by unfold ahZ; omega
  obtain ⟨z, hz0⟩ : ∃ z, ahZ ((k : Int) + 1) = z := ⟨_, rfl⟩
  obtain ⟨l, hl⟩ : ∃ l, leapZ y = l := ⟨_, rfl⟩
  have hd : dW l ((k : Int) + 1) = z + (if 2 < (k : Int) + 1 ∧ l = true then 1 else 0) := by rw [← hz0]; rfl
  have D := Lib.hid hd
  clear hd
  have C := C.out
  rw [hl] at C
  have C := Lib.hid C
  rw [hz0] at hc hz
  rw [hl]
  clear hz0 hl
  have e1 : IntKind.i64.wrap ((k : Int) + 1 - 1) = k := by rw [IntKind.wrap_i64]; omega
  go_enter Tryd.func22, Tryd.ntmps22
  go_wp2_with fail
  · refine C.out.mono ?_
    rintro e w' ⟨rfl, rfl⟩
    cases l with
    | true =>
      go_wp2_with fail
      go_ret
      refine ⟨?_, rfl⟩
      rw [D.out, if_pos ⟨by omega, by trivial⟩]
      rfl
    | false =>
      go_wp2_with fail
      go_ret
      refine ⟨?_, rfl⟩
      rw [D.out, if_neg (by simp), Int.add_zero]
      rfl
  · go_ret
    refine ⟨?_, rfl⟩
    rw [D.out, if_neg (by omega), Int.add_zero]
    rfl
end Go.Proofs.YtelhbkfhalpniaaDoor

namespace Go.Proofs.YtelhbkfhalpniaaDoor
open Go.RowKit Go.Lib Go.Joins

/-- A date as a value. -/
def dateV (x : DateZ) : Value := .agg #[.int .i64 x.y, .int .i64 x.m, .int .i64 x.d, .int .i64 x.hh, .int .i64 x.mm, .int .i64 x.ss, .int .i64 x.wk, .int .i64 x.yd]
def noDate : DateZ := ⟨0, 0, 0, 0, 0, 0, 0, 0⟩
set_option maxRecDepth 100000 in
theorem of_no (t : Int) (w : World) (h : ¬ (-62135596800 ≤ t ∧ t ≤ 253402300799)) : Calls Tryd.prog 10 #[.int .i64 t] w fun e w' => e = .returned (.tuple #[dateV noDate, .int .i64 1]) ∧ Below w.heap.size w w' := by
  have C := fun (W : World) => isTime_any t W
  rw [decide_eq_false h] at C
  have C := Lib.hid C
  go_enter Tryd.func10, Tryd.ntmps10
  go_wp2_with fail
  refine (C.out _).mono ?_
  rintro e w' ⟨rfl, rfl⟩
  go_wp2_with fail
  (try simp only [Exit.inBlock, Exit.then])
  refine bodyPost_ret (v := .tuple #[dateV noDate, .int .i64 1]) ?_ rfl ⟨rfl, ?_⟩
  · rw [results_cell_tmp rfl]
    go_simp
    rfl
  · repeat' (first | exact Below.refl _ _ | refine Below.drew ?_ | refine Below.store ?_ (by simp <;> omega) _ | refine Below.alloc ?_ (by simp <;> omega) _)
set_option maxRecDepth 100000 in
set_option maxHeartbeats 2000000 in
theorem of_yes (t : Int) (x : DateZ) (w : World) (h : DateIs t x) (h0 : -62135596800 ≤ t) (h1 : t ≤ 253402300799) (hA : AhMem w) : Calls Tryd.prog 10 #[.int .i64 t] w fun e w' => e = .returned (.tuple #[dateV x, .int .i64 0]) ∧ Below w.heap.size w w' := by
  have C := fun (W : World) => isTime_any t W
  rw [decide_eq_true ⟨h0, h1⟩] at C
  have C := Lib.hid C
  have CA := Lib.hid (fun (y : Int) (W : World) (a : -10000000 ≤ y) (b : y ≤ 10000000) => daysAhead_any y W a b)
  have CW := Lib.hid (fun (y m : Int) (W : World) (a : AhMem W) (b : 1 ≤ m) (c : m ≤ 12) => daysWithin_any y m W a b c)
  obtain ⟨b1, b2, b3, b4, b5, b6, b7, b8, b9, b10, b11, b12, b13, b14, b15, b16⟩ := h.bounds h0 h1
  obtain ⟨D, hD⟩ : ∃ D, (t + 62135596800) / 86400 = D := ⟨_, rfl⟩
  obtain ⟨R, hR⟩ : ∃ R, (t + 62135596800) % 86400 = R := ⟨_, rfl⟩
  have e0 : t - -62135596800 = t + 62135596800 := by omega
  have e1 : (t - -62135596800).tdiv 86400 = D := by rw [e0, Int.tdiv_eq_ediv_of_nonneg (by omega), hD]
  have e2 : (t - -62135596800).tmod 86400 = R := by rw [e0, Int.tmod_eq_emod_of_nonneg (by omega), hR]
  have l1 := h.low
  have l2 := h.high
  rw [hD] at l1 l2
  have yd := h.yd
  rw [hD] at yd
  have YU := Lib.hid (fun (a : Int) (p : dA a ≤ D) (q : D < dA (a + 1)) => year_uniq (a := a) p q l1 l2)
  have YM := Lib.hid (fun (a : Int) (p : dA a ≤ D) => (show a ≤ x.y from by
    rcases Int.lt_or_le x.y a with hc | hc
    · have := dA_mono (show x.y + 1 ≤ a by omega); omega
    · exact hc))
  have d1 : 0 ≤ D ∧ D ≤ 3652058 := by omega
  have d2 : 0 ≤ R ∧ R < 86400 := by omega
  have s1 : dA (1 + D.tdiv 366) ≤ D := by
    rw [Int.tdiv_eq_ediv_of_nonneg d1.1]
    unfold dA
    omega
  have s2 : 0 ≤ D.tdiv 366 ∧ D.tdiv 366 ≤ 20000 := by
    rw [Int.tdiv_eq_ediv_of_nonneg d1.1]
    omega
  obtain ⟨q, hq⟩ : ∃ q, D.tdiv 366 = q := ⟨_, rfl⟩
  rw [hq] at s1 s2
  have S1 := Lib.hid s1
  have MW := Lib.hid (fun (m0 : Int) (p : x.m ≤ m0) (p' : m0 ≤ 12) => (show (D - dA x.y + 1 ≤ dW (leapZ x.y) m0 → x.m ≤ m0 - 1) ∧ (dW (leapZ x.y) m0 < D - dA x.y + 1 → m0 = x.m) from by
    rw [← yd]
    have a1 := h.ahead
    have a2 := h.behind
    refine ⟨fun hc => ?_, fun hc => ?_⟩
    · rcases Int.lt_or_le x.m m0 with h4 | h4
      · omega
      · have : m0 = x.m := by omega
        subst this
        omega
    · rcases Int.lt_or_le x.m m0 with h4 | h4
      · have := dW_mono (l := leapZ x.y) (a := x.m + 1) (b := m0) (by omega) (by omega) (by omega)
        omega
      · omega))
  have hd := h.d
  have hh := h.hh
  have hm := h.mm
  have hs := h.ss
  have hw := h.wk
  rw [hR] at hh hm hs
  rw [hD] at hw
  have FIN := Lib.hid (show dateV x = .agg #[.int .i64 x.y, .int .i64 x.m, .int .i64 (D - dA x.y + 1 - dW (leapZ x.y) x.m), .int .i64 (R / 3600), .int .i64 (R % 3600 / 60), .int .i64 (R % 60), .int .i64 ((D + 1) % 7), .int .i64 (D - dA x.y + 1)] from by
    rw [← yd, ← hd, ← hh, ← hm, ← hs, ← hw]
    rfl)
  have yb : 0 ≤ dA x.y ∧ dA x.y ≤ 3652058 := ⟨by have := dA_mono (show 1 ≤ x.y by omega); have e : dA 1 = 0 := by decide
                                                 omega, by omega⟩
  have wb : ∀ m0, 1 ≤ m0 → m0 ≤ 12 → 0 ≤ dW (leapZ x.y) m0 ∧ dW (leapZ x.y) m0 ≤ 366 := fun m0 p p' => dW_bounds p (by omega)
  have WB := Lib.hid wb
  have ydb : 1 ≤ D - dA x.y + 1 ∧ D - dA x.y + 1 ≤ 366 := by omega
  clear h hd hh hm hs hw wb l1 l2 yd s1
  go_enter Tryd.func10, Tryd.ntmps10
  go_wp2_with fail
  refine (C.out _).mono ?_
  rintro e w' ⟨rfl, rfl⟩
  go_wp2_with fail
  simp only [hD, hR]
  go_loop [6] (fun v => ∃ y0 : Int, v = .int .i64 y0 ∧ 1 ≤ y0 ∧ y0 ≤ x.y ∧ dA y0 ≤ D) (fun v => (x.y - RowKit.intOf v).toNat)
  case atStart => exact ⟨1 + q, rfl, by omega, YM.out _ S1.out, S1.out⟩
  case round =>
    obtain ⟨y0, rfl, y1, y2, y3⟩ := hrel
    have Y3 := Lib.hid y3
    clear y3
    by_cases hlt : dA (y0 + 1) ≤ D
    · have y4 := YM.out _ hlt
      have HL := Lib.hid hlt
      go_wp2_with fail
      refine (CA.out (y0 + 1) _ (by omega) (by omega)).mono ?_
      rintro e w' ⟨rfl, rfl⟩
      go_wp2_with fail
      go_round
      case rel => exact ⟨y0 + 1, rfl, by omega, by omega, HL.out⟩
      case measure => simp [RowKit.intOf]; omega
    · have y4 := YU.out y0 Y3.out (by omega)
      subst y4
      go_wp2_with fail
      refine (CA.out (x.y + 1) _ (by omega) (by omega)).mono ?_
      rintro e w' ⟨rfl, rfl⟩
      go_wp2_with fail
      refine (CA.out x.y _ (by omega) (by omega)).mono ?_
      rintro e w' ⟨rfl, rfl⟩
      go_wp2_with fail
      have AY := Lib.hid (show AhMem (w.alloc (.cells #[.int .i64 0, .int .i64 0, .int .i64 0, .int .i64 0, .int .i64 0, .int .i64 0, .int .i64 0, .int .i64 0] 32)) from hA.below (below_alloc1 w _) (Nat.le_refl _))
      go_loop [8] (fun v => ∃ m0 : Int, v = .int .i64 m0 ∧ x.m ≤ m0 ∧ m0 ≤ 12) (fun v => (RowKit.intOf v).toNat)
      case atStart => exact ⟨12, rfl, by omega, by omega⟩
      case round =>
        obtain ⟨m0, rfl, m1, m2⟩ := hrel
        have M := MW.out m0 m1 m2
        obtain ⟨z, hz⟩ : ∃ z, dW (leapZ x.y) m0 = z := ⟨_, rfl⟩
        have hzb := WB.out m0 (by omega) m2
        rw [hz] at M hzb
        have hyb : IntKind.i64.wrap (D - dA x.y + 1 - z) = D - dA x.y + 1 - z := by rw [IntKind.wrap_i64]; omega
        by_cases hlt : D - dA x.y + 1 ≤ z
        · have m3 := M.1 hlt
          clear M
          go_wp2_with fail
          refine (CW.out x.y m0 _ AY.out (by omega) m2).mono ?_
          rintro e w' ⟨rfl, rfl⟩
          rw [hz]
          go_wp2_with fail
          go_round
          case rel => exact ⟨m0 - 1, rfl, by omega, by omega⟩
          case measure => simp [RowKit.intOf]; omega
        · have m3 := M.2 (by omega)
          clear M
          subst m3
          go_wp2_with fail
          refine (CW.out x.y x.m _ AY.out (by omega) m2).mono ?_
          rintro e w' ⟨rfl, rfl⟩
          rw [hz]
          go_wp2_with fail
          refine (CW.out x.y x.m _ AY.out (by omega) m2).mono ?_
          rintro e w' ⟨rfl, rfl⟩
          rw [hz]
          have FI := FIN.out
          rw [hz] at FI
          go_wp2_with fail
          (try simp only [Exit.inBlock, Exit.then])
          refine bodyPost_ret (v := .tuple #[dateV x, .int .i64 0]) ?_ rfl ⟨rfl, ?_⟩
          · rw [results_cell_tmp rfl, FI]
            go_simp
            done
          · repeat' (first | exact Below.refl _ _ | refine Below.drew ?_ | refine Below.store ?_ (by simp <;> omega) _ | refine Below.alloc ?_ (by simp <;> omega) _)
end Go.Proofs.YtelhbkfhalpniaaDoor

namespace Go.Proofs.YtelhbkfhalpniaaDoor
open Go.RowKit Go.Lib Go.Joins

def inB (z : Int) : Prop := -1000000 ≤ z ∧ z ≤ 1000000
instance (z : Int) : Decidable (inB z) := by unfold inB; infer_instance
/-- What At answers. -/
def atR (y m d hh mm ss : Int) : Int × Int := if inB y ∧ inB m ∧ inB d ∧ inB hh ∧ inB mm ∧ inB ss then (if -62135596800 ≤ atT y m d hh mm ss ∧ atT y m d hh mm ss ≤ 253402300799 then (atT y m d hh mm ss, 0) else (0, 1)) else (0, 1)
theorem atR_out {y m d hh mm ss : Int} (h : ¬ (inB y ∧ inB m ∧ inB d ∧ inB hh ∧ inB mm ∧ inB ss)) : atR y m d hh mm ss = (0, 1) := if_neg h
/-- Are the first so many numbers within the bounds? -/
def firstIn (k : Nat) (y m d hh mm ss : Int) : Prop := (0 < k → inB y) ∧ (1 < k → inB m) ∧ (2 < k → inB d) ∧ (3 < k → inB hh) ∧ (4 < k → inB mm) ∧ (5 < k → inB ss)
set_option maxRecDepth 10000 in
theorem run_index6 (w : World) (a b c d e f : Value) (i : Nat) (hi : i < 6) : (Instr.index 42 (.agg #[a, b, c, d, e, f]) (.int .i64 i)).run Tryd.prog w = .ok (#[a, b, c, d, e, f].getD i undef) w := by
  have h : Tryd.prog.underlying 42 = some (.array 6 3) := by kernel_rfl
  have hb : 0 ≤ (i : Int) ∧ (i : Int) < 6 := by omega
  simp only [Instr.index, run_underlying h, asIntOf, Sem.run_bind, Sem.run_pure, Result.andThen]
  simp only [Int.toNat_natCast]
  rw [if_pos (show 0 ≤ (i : Int) ∧ (i : Int) < ((6 : Nat) : Int) from hb)]
  have hk : i = 0 ∨ i = 1 ∨ i = 2 ∨ i = 3 ∨ i = 4 ∨ i = 5 := by omega
  rcases hk with rfl | rfl | rfl | rfl | rfl | rfl <;> rfl
@[local go_sem] theorem run_index6_0 (w : World) (a b c d e f : Value) : (Instr.index 42 (.agg #[a, b, c, d, e, f]) (.int .i64 0)).run Tryd.prog w = .ok a w := run_index6 w a b c d e f 0 (by decide)
@[local go_sem] theorem run_index6_1 (w : World) (a b c d e f : Value) : (Instr.index 42 (.agg #[a, b, c, d, e, f]) (.int .i64 1)).run Tryd.prog w = .ok b w := run_index6 w a b c d e f 1 (by decide)
@[local go_sem] theorem run_index6_2 (w : World) (a b c d e f : Value) : (Instr.index 42 (.agg #[a, b, c, d, e, f]) (.int .i64 2)).run Tryd.prog w = .ok c w := run_index6 w a b c d e f 2 (by decide)
@[local go_sem] theorem run_index6_3 (w : World) (a b c d e f : Value) : (Instr.index 42 (.agg #[a, b, c, d, e, f]) (.int .i64 3)).run Tryd.prog w = .ok d w := run_index6 w a b c d e f 3 (by decide)
@[local go_sem] theorem run_index6_4 (w : World) (a b c d e f : Value) : (Instr.index 42 (.agg #[a, b, c, d, e, f]) (.int .i64 4)).run Tryd.prog w = .ok e w := run_index6 w a b c d e f 4 (by decide)
@[local go_sem] theorem run_index6_5 (w : World) (a b c d e f : Value) : (Instr.index 42 (.agg #[a, b, c, d, e, f]) (.int .i64 5)).run Tryd.prog w = .ok f w := run_index6 w a b c d e f 5 (by decide)
set_option maxRecDepth 100000 in
set_option maxHeartbeats 2000000 in
theorem at_any (y m d hh mm ss wk yd : Int) (w : World) (hA : AhMem w) : Calls Tryd.prog 17 #[dateV ⟨y, m, d, hh, mm, ss, wk, yd⟩] w fun e w' => e = .returned (.tuple #[.int .i64 (atR y m d hh mm ss).1, .int .i64 (atR y m d hh mm ss).2]) ∧ Below w.heap.size w w' := by
  have CD := Lib.hid (fun (a : Int) (W : World) (p : -4611686018427387904 ≤ a) (q : a ≤ 4611686018427387904) => divide_any a 12 W (by omega) p q)
  have CA := Lib.hid (fun (y : Int) (W : World) (a : -10000000 ≤ y) (b : y ≤ 10000000) => daysAhead_any y W a b)
  have CW := Lib.hid (fun (y m : Int) (W : World) (a : AhMem W) (b : 1 ≤ m) (c : m ≤ 12) => daysWithin_any y m W a b c)
  have CT := Lib.hid (fun (t : Int) (W : World) => isTime_any t W)
  unfold dateV
  go_enter Tryd.func17, Tryd.ntmps17
  go_wp2_with fail
  go_loop [24] (fun v => ∃ k : Nat, v = .int .i64 (k : Int) ∧ k ≤ 6 ∧ firstIn k y m d hh mm ss) (fun v => 6 - (RowKit.intOf v).toNat)
  case atStart => exact ⟨0, rfl, by omega, by unfold firstIn; omega⟩
  case round =>
    obtain ⟨k, rfl, hk, hf⟩ := hrel
    by_cases h6 : k = 6
    · subst h6
      obtain ⟨f0, f1, f2, f3, f4, f5⟩ := hf
      have f0 := f0 (by decide)
      have f1 := f1 (by decide)
      have f2 := f2 (by decide)
      have f3 := f3 (by decide)
      have f4 := f4 (by decide)
      have f5 := f5 (by decide)
      have HI := Lib.hid (show inB y ∧ inB m ∧ inB d ∧ inB hh ∧ inB mm ∧ inB ss from ⟨f0, f1, f2, f3, f4, f5⟩)
      obtain ⟨y1, y2⟩ := f0
      obtain ⟨m1, m2⟩ := f1
      obtain ⟨d1, d2⟩ := f2
      obtain ⟨h1, h2⟩ := f3
      obtain ⟨n1, n2⟩ := f4
      obtain ⟨s1, s2⟩ := f5
      obtain ⟨q, hq⟩ : ∃ q, (m - 1) / 12 = q := ⟨_, rfl⟩
      have q1 : -83335 ≤ q ∧ q ≤ 83335 := by omega
      have q2 : 1 ≤ m - 12 * q ∧ m - 12 * q ≤ 12 := by omega
      obtain ⟨A, hA0⟩ : ∃ A, dA (y + q) = A := ⟨_, rfl⟩
      have A1 : -400000000 ≤ A ∧ A ≤ 400000000 := by rw [← hA0]; unfold dA; omega
      obtain ⟨B, hB0⟩ : ∃ B, dW (leapZ (y + q)) (m - 12 * q) = B := ⟨_, rfl⟩
      have B1 : 0 ≤ B ∧ B ≤ 366 := by rw [← hB0]; exact dW_bounds q2.1 (by omega)
      obtain ⟨T, hT⟩ : ∃ T, atT y m d hh mm ss = T := ⟨_, rfl⟩
      have eT : -62135596800 + (A + B + d - 1) * 86400 + hh * 3600 + mm * 60 + ss = T := by
        rw [← hT]; unfold atT; rw [hq, hA0, hB0]
      have RT := Lib.hid (show atR y m d hh mm ss = if -62135596800 ≤ T ∧ T ≤ 253402300799 then (T, 0) else (0, 1) from by unfold atR; rw [if_pos HI.out, hT])
      have AY := Lib.hid (show AhMem (w.alloc (.cells #[.int .i64 y, .int .i64 m, .int .i64 d, .int .i64 hh, .int .i64 mm, .int .i64 ss, .int .i64 wk, .int .i64 yd] 32)) from hA.below (below_alloc1 w _) (Nat.le_refl _))
      have HQ := Lib.hid hq
      have HA0 := Lib.hid hA0
      have HB0 := Lib.hid hB0
      clear hq hA0 hB0 hT HI
      go_wp2_with fail
      refine (CD.out _ _ (by omega) (by omega)).mono ?_
      rintro e w' ⟨rfl, rfl⟩
      rw [HQ.out]
      have w1 : IntKind.i64.wrap (y + q) = y + q := by rw [IntKind.wrap_i64]; omega
      have w2 : IntKind.i64.wrap (12 * q) = 12 * q := by rw [IntKind.wrap_i64]; omega
      have w3 : IntKind.i64.wrap (m - 12 * q) = m - 12 * q := by rw [IntKind.wrap_i64]; omega
      have w4 : IntKind.i64.wrap (A + B) = A + B := by rw [IntKind.wrap_i64]; omega
      have w5 : IntKind.i64.wrap (A + B + d) = A + B + d := by rw [IntKind.wrap_i64]; omega
      have w6 : IntKind.i64.wrap (A + B + d - 1) = A + B + d - 1 := by rw [IntKind.wrap_i64]; omega
      go_wp2_with fail
      go_quiet (fail)
      go_wp2_with fail
      have CA1 := (fun (W : World) => (daysAhead_any (y + q) W (by omega) (by omega)))
      have CW1 := (fun (n : Nat) => (daysWithin_any (y + q) (m - 12 * q) _ (AY.out.below (cal_drewN (Below.refl _ _) n) (Nat.le_refl _)) q2.1 q2.2))
      rw [HA0.out] at CA1
      rw [HB0.out] at CW1
      have CA1 := Lib.hid CA1
      have CW1 := Lib.hid CW1
      go_quiet (first | (go_at_call 21; refine (CA1.out _).mono ?_; rintro e w' ⟨rfl, rfl⟩; exact ⟨rfl, _, rfl⟩) | (go_at_call 22; refine (CW1.out _).mono ?_; rintro e w' ⟨rfl, rfl⟩; exact ⟨rfl, _, rfl⟩))
      go_wp2_with fail
      refine (CT.out _ _).mono ?_
      rintro e w' ⟨rfl, rfl⟩
      by_cases hT : -62135596800 ≤ T ∧ T ≤ 253402300799
      · rw [decide_eq_true hT]
        have R := RT.out
        rw [if_pos hT] at R
        have R := Lib.hid R
        clear RT eT hT
        go_wp2_with fail
        go_ret2
        refine ⟨by rw [R.out]; rfl, ?_⟩
        exact cal_drewN (below_alloc1 w _) _
      · rw [decide_eq_false hT]
        have R := RT.out
        rw [if_neg hT] at R
        have R := Lib.hid R
        clear RT eT hT
        go_wp2_with fail
        go_ret2
        refine ⟨by rw [R.out]; rfl, ?_⟩
        exact cal_drewN (below_alloc1 w _) _
    · have HF := Lib.hid hf
      clear hf
      have hk' : k = 0 ∨ k = 1 ∨ k = 2 ∨ k = 3 ∨ k = 4 ∨ k = 5 := by omega
      rcases hk' with rfl | rfl | rfl | rfl | rfl | rfl
      · rcases (show y < -1000000 ∨ 1000000 < y ∨ (-1000000 ≤ y ∧ y ≤ 1000000) by omega) with hb | hb | ⟨b1, b2⟩
        · have RO := Lib.hid (atR_out (y := y) (m := m) (d := d) (hh := hh) (mm := mm) (ss := ss) (fun h => by have := h.1; unfold inB at this; omega))
          go_wp2_with fail
          go_ret2
          refine ⟨by rw [RO.out]; rfl, ?_⟩
          exact below_alloc1 w _
        · have RO := Lib.hid (atR_out (y := y) (m := m) (d := d) (hh := hh) (mm := mm) (ss := ss) (fun h => by have := h.1; unfold inB at this; omega))
          have hb' : -1000000 ≤ y := by omega
          go_wp2_with fail
          go_ret2
          refine ⟨by rw [RO.out]; rfl, ?_⟩
          exact below_alloc1 w _
        · go_wp2_with fail
          go_round
          case rel => exact ⟨1, rfl, by omega, by
            have h := HF.out
            unfold firstIn at h ⊢
            have hi : inB y := ⟨b1, b2⟩
            simp at h ⊢
            simp [hi]⟩
          case measure => simp [RowKit.intOf]
      · rcases (show m < -1000000 ∨ 1000000 < m ∨ (-1000000 ≤ m ∧ m ≤ 1000000) by omega) with hb | hb | ⟨b1, b2⟩
        · have RO := Lib.hid (atR_out (y := y) (m := m) (d := d) (hh := hh) (mm := mm) (ss := ss) (fun h => by have := h.2.1; unfold inB at this; omega))
          go_wp2_with fail
          go_ret2
          refine ⟨by rw [RO.out]; rfl, ?_⟩
          exact below_alloc1 w _
        · have RO := Lib.hid (atR_out (y := y) (m := m) (d := d) (hh := hh) (mm := mm) (ss := ss) (fun h => by have := h.2.1; unfold inB at this; omega))
          have hb' : -1000000 ≤ m := by omega
          go_wp2_with fail
          go_ret2
          refine ⟨by rw [RO.out]; rfl, ?_⟩
          exact below_alloc1 w _
        · go_wp2_with fail
          go_round
          case rel => exact ⟨2, rfl, by omega, by
            have h := HF.out
            unfold firstIn at h ⊢
            have hi : inB m := ⟨b1, b2⟩
            simp at h ⊢
            simp [h, hi]⟩
          case measure => simp [RowKit.intOf]
      · rcases (show d < -1000000 ∨ 1000000 < d ∨ (-1000000 ≤ d ∧ d ≤ 1000000) by omega) with hb | hb | ⟨b1, b2⟩
        · have RO := Lib.hid (atR_out (y := y) (m := m) (d := d) (hh := hh) (mm := mm) (ss := ss) (fun h => by have := h.2.2.1; unfold inB at this; omega))
          go_wp2_with fail
          go_ret2
          refine ⟨by rw [RO.out]; rfl, ?_⟩
          exact below_alloc1 w _
        · have RO := Lib.hid (atR_out (y := y) (m := m) (d := d) (hh := hh) (mm := mm) (ss := ss) (fun h => by have := h.2.2.1; unfold inB at this; omega))
          have hb' : -1000000 ≤ d := by omega
          go_wp2_with fail
          go_ret2
          refine ⟨by rw [RO.out]; rfl, ?_⟩
          exact below_alloc1 w _
        · go_wp2_with fail
          go_round
          case rel => exact ⟨3, rfl, by omega, by
            have h := HF.out
            unfold firstIn at h ⊢
            have hi : inB d := ⟨b1, b2⟩
            simp at h ⊢
            simp [h, hi]⟩
          case measure => simp [RowKit.intOf]
      · rcases (show hh < -1000000 ∨ 1000000 < hh ∨ (-1000000 ≤ hh ∧ hh ≤ 1000000) by omega) with hb | hb | ⟨b1, b2⟩
        · have RO := Lib.hid (atR_out (y := y) (m := m) (d := d) (hh := hh) (mm := mm) (ss := ss) (fun h => by have := h.2.2.2.1; unfold inB at this; omega))
          go_wp2_with fail
          go_ret2
          refine ⟨by rw [RO.out]; rfl, ?_⟩
          exact below_alloc1 w _
        · have RO := Lib.hid (atR_out (y := y) (m := m) (d := d) (hh := hh) (mm := mm) (ss := ss) (fun h => by have := h.2.2.2.1; unfold inB at this; omega))
          have hb' : -1000000 ≤ hh := by omega
          go_wp2_with fail
          go_ret2
          refine ⟨by rw [RO.out]; rfl, ?_⟩
          exact below_alloc1 w _
        · go_wp2_with fail
          go_round
          case rel => exact ⟨4, rfl, by omega, by
            have h := HF.out
            unfold firstIn at h ⊢
            have hi : inB hh := ⟨b1, b2⟩
            simp at h ⊢
            simp [h, hi]⟩
          case measure => simp [RowKit.intOf]
      · rcases (show mm < -1000000 ∨ 1000000 < mm ∨ (-1000000 ≤ mm ∧ mm ≤ 1000000) by omega) with hb | hb | ⟨b1, b2⟩
        · have RO := Lib.hid (atR_out (y := y) (m := m) (d := d) (hh := hh) (mm := mm) (ss := ss) (fun h => by have := h.2.2.2.2.1; unfold inB at this; omega))
          go_wp2_with fail
          go_ret2
          refine ⟨by rw [RO.out]; rfl, ?_⟩
          exact below_alloc1 w _
        · have RO := Lib.hid (atR_out (y := y) (m := m) (d := d) (hh := hh) (mm := mm) (ss := ss) (fun h => by have := h.2.2.2.2.1; unfold inB at this; omega))
          have hb' : -1000000 ≤ mm := by omega
          go_wp2_with fail
          go_ret2
          refine ⟨by rw [RO.out]; rfl, ?_⟩
          exact below_alloc1 w _
        · go_wp2_with fail
          go_round
          case rel => exact ⟨5, rfl, by omega, by
            have h := HF.out
            unfold firstIn at h ⊢
            have hi : inB mm := ⟨b1, b2⟩
            simp at h ⊢
            simp [h, hi]⟩
          case measure => simp [RowKit.intOf]
      · rcases (show ss < -1000000 ∨ 1000000 < ss ∨ (-1000000 ≤ ss ∧ ss ≤ 1000000) by omega) with hb | hb | ⟨b1, b2⟩
        · have RO := Lib.hid (atR_out (y := y) (m := m) (d := d) (hh := hh) (mm := mm) (ss := ss) (fun h => by have := h.2.2.2.2.2; unfold inB at this; omega))
          go_wp2_with fail
          go_ret2
          refine ⟨by rw [RO.out]; rfl, ?_⟩
          exact below_alloc1 w _
        · have RO := Lib.hid (atR_out (y := y) (m := m) (d := d) (hh := hh) (mm := mm) (ss := ss) (fun h => by have := h.2.2.2.2.2; unfold inB at this; omega))
          have hb' : -1000000 ≤ ss := by omega
          go_wp2_with fail
          go_ret2
          refine ⟨by rw [RO.out]; rfl, ?_⟩
          exact below_alloc1 w _
        · go_wp2_with fail
          go_round
          case rel => exact ⟨6, rfl, by omega, by
            have h := HF.out
            unfold firstIn at h ⊢
            have hi : inB ss := ⟨b1, b2⟩
            simp at h ⊢
            simp [h, hi]⟩
          case measure => simp [RowKit.intOf]
end Go.Proofs.YtelhbkfhalpniaaDoor

namespace Go.Proofs.YtelhbkfhalpniaaDoor
open Go.RowKit Go.Lib Go.Joins

def wdN (i : Nat) : List UInt8 := match i with
  | 0 => [83, 117, 110, 100, 97, 121] | 1 => [77, 111, 110, 100, 97, 121] | 2 => [84, 117, 101, 115, 100, 97, 121] | 3 => [87, 101, 100, 110, 101, 115, 100, 97, 121]
  | 4 => [84, 104, 117, 114, 115, 100, 97, 121] | 5 => [70, 114, 105, 100, 97, 121] | _ => [83, 97, 116, 117, 114, 100, 97, 121]
def moN (i : Nat) : List UInt8 := match i with
  | 0 => [74, 97, 110, 117, 97, 114, 121] | 1 => [70, 101, 98, 114, 117, 97, 114, 121] | 2 => [77, 97, 114, 99, 104] | 3 => [65, 112, 114, 105, 108] | 4 => [77, 97, 121] | 5 => [74, 117, 110, 101] | 6 => [74, 117, 108, 121]
  | 7 => [65, 117, 103, 117, 115, 116] | 8 => [83, 101, 112, 116, 101, 109, 98, 101, 114] | 9 => [79, 99, 116, 111, 98, 101, 114] | 10 => [78, 111, 118, 101, 109, 98, 101, 114] | _ => [68, 101, 99, 101, 109, 98, 101, 114]
/-- What the laws' world holds: the tables. -/
structure CalMem (w : World) : Prop where
  ah : AhMem w
  wd : ∀ i : Nat, i < 7 → w.cell? ⟨1, i, none⟩ = some (.string ⟨(wdN i).toArray⟩)
  mo : ∀ i : Nat, i < 12 → w.cell? ⟨2, i, none⟩ = some (.string ⟨(moN i).toArray⟩)
  pow : Lib.TabIs Tryd.prog w "internal/strconv.uint64pow10" .u64 Lib.pow10Tab
  err : ∃ tp p, w.var? Tryd.prog "strconv.ErrSyntax" = some #[.iface tp p]
theorem CalMem.below {w w' : World} {B : Nat} (h : CalMem w) (hb : Below B w w') (hB : w.heap.size ≤ B) : CalMem w' :=
  ⟨h.ah.below hb hB, fun i hi => cell_below (h.wd i hi) hb hB, fun i hi => cell_below (h.mo i hi) hb hB, tab_stays (g := 8) (by kernel_rfl) h.pow hb hB, by
    obtain ⟨tp, p, h1⟩ := h.err
    exact ⟨tp, p, var_stays (g := 6) (by kernel_rfl) h1 hb hB⟩⟩
theorem writeS (B b : Nat) (bs : List Value) (s : ByteArray) (w : World) (h : Lib.IsBuilder 59 5 B b bs w) (hlen : bs.length + s.size ≤ 140737488355328) (hBw : B ≤ w.heap.size) :
    Calls Tryd.prog 23 #[.pointer (some ⟨b, 0, none⟩), .string s] w fun e w' => e = .returned (.tuple #[.int .i64 s.size, .nilIface]) ∧ (Lib.IsBuilder 59 5 B b (bs ++ Lib.strCells s) w' ∧ Below B w w') :=
  (Any.Builder_WriteString (ρ := Tryd.lays105_ren) { Tryd.lays105 with } Tryd.Builder_Extra_105 B b bs s w h hlen hBw).mono fun _ _ ⟨h1, h2, h3⟩ => ⟨h1, Or.inr h2, h3⟩
def renWB : Go.Shelf.Ren := ⟨fun | 167 => 25 | n => Tryd.lays105_ren.f n, Tryd.lays105_ren.t, Tryd.lays105_ren.g⟩
theorem laysWB : Go.Proofs.Lays.n167 Tryd.prog renWB := { Tryd.lays105 with
  f167 := Tryd.func25.trans (congrArg some (by kernel_rfl))
  f240 := Tryd.lays105.f240
  f276 := Tryd.lays105.f276 }
set_option maxRecDepth 1000000 in
theorem extraWB : Builder.Extra Tryd.prog renWB := {
  sizeBuilder := Tryd.Builder_Extra_105.sizeBuilder
  liesBuilder := Tryd.Builder_Extra_105.liesBuilder
  t5 := Tryd.Builder_Extra_105.t5
  a5 := Tryd.Builder_Extra_105.a5
  z5 := Tryd.Builder_Extra_105.z5
  v5 := Tryd.Builder_Extra_105.v5
  infoByte := Tryd.Builder_Extra_105.infoByte
  cellsByte := Tryd.Builder_Extra_105.cellsByte
  sizeByte := Tryd.Builder_Extra_105.sizeByte
  neB5 := Tryd.Builder_Extra_105.neB5 }
theorem writeB (B b : Nat) (bs : List Value) (c : Nat) (w : World) (h : Lib.IsBuilder 59 5 B b bs w) (hlen : bs.length + 1 ≤ 140737488355328) (hBw : B ≤ w.heap.size) :
    Calls Tryd.prog 25 #[.pointer (some ⟨b, 0, none⟩), .int .u8 c] w fun e w' => e = .returned .nilIface ∧ (Lib.IsBuilder 59 5 B b (bs ++ [.int .u8 c]) w' ∧ Below B w w') :=
  (Any.Builder_WriteByte (ρ := renWB) laysWB extraWB B b bs c w h hlen hBw).mono fun _ _ ⟨h1, h2, h3⟩ => ⟨h1, Or.inr h2, h3⟩
/-- A number, with so many of a filler ahead. -/
def padL (n : Int) (k : Nat) (f : UInt8) : List UInt8 := List.replicate (k - (Lib.itoa n).length) f ++ Lib.itoa n
theorem cal_rep1 (x : UInt8) (k : Nat) : Lib.repeatL [x] k = List.replicate k x := by
  induction k with
  | zero => rfl
  | succ k ih =>
    show [x] ++ Lib.repeatL [x] k = _
    rw [ih, List.replicate_succ]
    rfl
theorem cal_cat (l m : List UInt8) : (⟨l.toArray⟩ : ByteArray) ++ ⟨m.toArray⟩ = ⟨(l ++ m).toArray⟩ := by
  apply ByteArray.ext
  apply Array.toList_inj.1
  rw [ByteArray.data_append, Array.toList_append]
set_option maxRecDepth 100000 in
theorem padded_any (n : Int) (k : Nat) (f : UInt8) (w : World) (hM : CalMem w) (h0 : -9223372036854775808 ≤ n) (h1 : n ≤ 9223372036854775807) (hk : k ≤ 100) : Calls Tryd.prog 45 #[.int .i64 n, .int .i64 k, .string ⟨#[f]⟩] w fun e w' => e = .returned (.string ⟨(padL n k f).toArray⟩) ∧ Below w.heap.size w w' := by
  have hl := Lib.itoa_length_le n h0 h1
  obtain ⟨D, hD⟩ : ∃ D, Lib.itoa n = D := ⟨_, rfl⟩
  have CI : Calls Tryd.prog 60 #[.int .i64 n] w fun e w' => e = .returned (.string ⟨(Lib.itoa n).toArray⟩) ∧ Below w.heap.size w w' := (Tryd.strconv_Itoa n h0 h1 w hM.pow).mono fun _ _ ⟨a, k, os, hb⟩ => ⟨a, hb ▸ Lib.below_grow w.heap.size w (Nat.le_refl _) k os⟩
  unfold padL
  rw [hD] at hl CI ⊢
  obtain ⟨z, hz⟩ : ∃ z, D.length = z := ⟨_, rfl⟩
  have hsz : (⟨D.toArray⟩ : ByteArray).size = z := by rw [← hz]; rfl
  obtain ⟨r, hr⟩ : ∃ r, k - z = r := ⟨_, rfl⟩
  rw [hz] at hl ⊢
  rw [hr]
  have hmx : max (0 : Int) ((k : Int) - z) = r := by omega
  have cR := fun (W : World) => Tryd.strings_Repeat ⟨#[f]⟩ r W (by omega) (by show 1 * r ≤ _; omega)
  have cR : ∀ W, Calls Tryd.prog 61 #[.string ⟨#[f]⟩, .int .i64 r] W fun e w' => e = .returned (.string ⟨(Lib.repeatL [f] r).toArray⟩) ∧ Below W.heap.size W w' := cR
  rw [cal_rep1] at cR
  have hc := cal_cat (List.replicate r f) D
  obtain ⟨S, hS⟩ : ∃ S : ByteArray, ⟨D.toArray⟩ = S := ⟨_, rfl⟩
  rw [hS] at hsz CI hc
  obtain ⟨R, hR⟩ : ∃ R : ByteArray, ⟨(List.replicate r f).toArray⟩ = R := ⟨_, rfl⟩
  rw [hR] at cR hc
  have hRs : R.size = r := by rw [← hR]; show (List.replicate r f).length = r; rw [List.length_replicate]
  have hle : ¬ 9223372036854775807 < R.size + S.size := by omega
  rw [← hc]
  have CR := Lib.hid cR
  have CI := Lib.hid CI
  clear hc hS hR cR hM hD hz
  go_enter Tryd.func45, Tryd.ntmps45
  go_wp2_with fail
  refine CI.out.mono ?_
  rintro e w2 ⟨rfl, hB⟩
  have HB := Lib.hid hB
  clear hB
  go_wp2_with fail
  refine (CR.out _).mono ?_
  rintro e w3 ⟨rfl, hB3⟩
  have HB3 := Lib.hid hB3
  clear hB3
  go_wp2_with fail
  go_ret
  exact ⟨rfl, HB.out.trans (HB3.out.mono HB.out.size)⟩
end Go.Proofs.YtelhbkfhalpniaaDoor

namespace Go.Proofs.YtelhbkfhalpniaaDoor
open Go.RowKit Go.Lib Go.Joins

/-- A moment as a value. -/
def momV (x : DateZ) (t : Int) : Value := .agg #[.int .i64 x.y, .int .i64 x.m, .int .i64 x.d, .int .i64 x.hh, .int .i64 x.mm, .int .i64 x.ss, .int .i64 x.wk, .int .i64 x.yd, .int .i64 t]
/-- A date's numbers are small. -/
structure Fair (x : DateZ) : Prop where
  y : 1 ≤ x.y ∧ x.y ≤ 9999
  m : 1 ≤ x.m ∧ x.m ≤ 12
  d : 1 ≤ x.d ∧ x.d ≤ 31
  hh : 0 ≤ x.hh ∧ x.hh < 24
  mm : 0 ≤ x.mm ∧ x.mm < 60
  ss : 0 ≤ x.ss ∧ x.ss < 60
  wk : 0 ≤ x.wk ∧ x.wk < 7
  yd : 1 ≤ x.yd ∧ x.yd ≤ 366
theorem DateIs.fair {t : Int} {x : DateZ} (h : DateIs t x) (h1 : -62135596800 ≤ t) (h2 : t ≤ 253402300799) : Fair x := by
  obtain ⟨a1, a2, a3, a4, a5, a6, a7, a8, a9, a10, a11, a12, a13, a14, a15, a16⟩ := h.bounds h1 h2
  exact ⟨⟨a1, a2⟩, ⟨a3, a4⟩, ⟨a5, a6⟩, ⟨a7, a8⟩, ⟨a9, a10⟩, ⟨a11, a12⟩, ⟨a13, a14⟩, ⟨a15, a16⟩⟩
set_option maxRecDepth 100000 in
theorem sinceMonday_any (x : DateZ) (t : Int) (w : World) (h : Fair x) : Calls Tryd.prog 62 #[momV x t] w fun e w' => e = .returned (.int .i64 ((x.wk + 6) % 7)) ∧ Below w.heap.size w w' := by
  obtain ⟨a, b⟩ := h.wk
  unfold momV
  go_enter Tryd.func62, Tryd.ntmps62
  go_wp2_with fail
  go_ret
  exact ⟨rfl, below_alloc1 w _⟩
set_option maxRecDepth 100000 in
theorem weeksBegun_any (a b : Int) (w : World) (h0 : 1 ≤ a) (h1 : a ≤ 366) (h2 : 0 ≤ b) (h3 : b < 7) : Calls Tryd.prog 63 #[.int .i64 a, .int .i64 b] w fun e w' => e = .returned (.int .i64 ((a - b + 6) / 7)) ∧ w = w' := by
  go_enter Tryd.func63, Tryd.ntmps63
  go_wp2_with fail
  go_ret
  exact ⟨rfl, rfl⟩
/-- The Thursday of a time's week, from Monday to Sunday, is a time. -/
theorem DateIs.thu {t : Int} {x : DateZ} (h : DateIs t x) (h1 : -62135596800 ≤ t) (h2 : t ≤ 253402300799) : -62135596800 ≤ t + (3 - (x.wk + 6) % 7) * 86400 ∧ t + (3 - (x.wk + 6) % 7) * 86400 ≤ 253402300799 := by
  have e := h.wk
  obtain ⟨D, hD⟩ : ∃ D, (t + 62135596800) / 86400 = D := ⟨_, rfl⟩
  rw [hD] at e
  have e2 : (x.wk + 6) % 7 = D % 7 := by omega
  rw [e2]
  omega
/-- A moment in memory. -/
def MomAt (W : World) (B : Nat) (x : DateZ) (t : Int) : Prop := W.cell? ⟨B, 0, none⟩ = some (.int .i64 x.y) ∧ W.cell? ⟨B, 1, none⟩ = some (.int .i64 x.m) ∧ W.cell? ⟨B, 2, none⟩ = some (.int .i64 x.d) ∧ W.cell? ⟨B, 3, none⟩ = some (.int .i64 x.hh) ∧ W.cell? ⟨B, 4, none⟩ = some (.int .i64 x.mm) ∧ W.cell? ⟨B, 5, none⟩ = some (.int .i64 x.ss) ∧ W.cell? ⟨B, 6, none⟩ = some (.int .i64 x.wk) ∧ W.cell? ⟨B, 7, none⟩ = some (.int .i64 x.yd) ∧ W.cell? ⟨B, 8, none⟩ = some (.int .i64 t)
theorem first_bel {B : Nat} {a b c : World} (h : Below B a b) (k : Below b.heap.size b c) (hB : B ≤ a.heap.size := by exact Nat.le_refl _) : Below B a c := h.trans (k.mono (Nat.le_trans hB h.size))
set_option maxRecDepth 100000 in
theorem zero_facts {W : World} {g : Nat} (z : W.heap[g]? = some (.cells #[.int .i64 0, .int .i64 0, .int .i64 0, .int .i64 0, .int .i64 0, .int .i64 0, .int .i64 0, .int .i64 0] 32 (0, 0))) : W.cell? ⟨g, 0, none⟩ = some (.int .i64 0) ∧ W.cell? ⟨g, 1, none⟩ = some (.int .i64 0) ∧ W.cell? ⟨g, 2, none⟩ = some (.int .i64 0) ∧ W.cell? ⟨g, 3, none⟩ = some (.int .i64 0) ∧ W.cell? ⟨g, 4, none⟩ = some (.int .i64 0) ∧ W.cell? ⟨g, 5, none⟩ = some (.int .i64 0) ∧ W.cell? ⟨g, 6, none⟩ = some (.int .i64 0) ∧ W.cell? ⟨g, 7, none⟩ = some (.int .i64 0) ∧ W.frozen? ⟨g, 0, none⟩ = false ∧ W.frozen? ⟨g, 1, none⟩ = false ∧ W.frozen? ⟨g, 2, none⟩ = false ∧ W.frozen? ⟨g, 3, none⟩ = false ∧ W.frozen? ⟨g, 4, none⟩ = false ∧ W.frozen? ⟨g, 5, none⟩ = false ∧ W.frozen? ⟨g, 6, none⟩ = false ∧ W.frozen? ⟨g, 7, none⟩ = false :=
  ⟨cell_of_block z 0, cell_of_block z 1, cell_of_block z 2, cell_of_block z 3, cell_of_block z 4, cell_of_block z 5, cell_of_block z 6, cell_of_block z 7, unfrozen_of_block z 0, unfrozen_of_block z 1, unfrozen_of_block z 2, unfrozen_of_block z 3, unfrozen_of_block z 4, unfrozen_of_block z 5, unfrozen_of_block z 6, unfrozen_of_block z 7⟩
set_option maxRecDepth 100000 in
theorem date_facts {W : World} {g : Nat} {th : DateZ} (z : W.heap[g]? = some (.cells #[.int .i64 th.y, .int .i64 th.m, .int .i64 th.d, .int .i64 th.hh, .int .i64 th.mm, .int .i64 th.ss, .int .i64 th.wk, .int .i64 th.yd] 32 (0, 0))) : W.cell? ⟨g, 0, none⟩ = some (.int .i64 th.y) ∧ W.cell? ⟨g, 1, none⟩ = some (.int .i64 th.m) ∧ W.cell? ⟨g, 2, none⟩ = some (.int .i64 th.d) ∧ W.cell? ⟨g, 3, none⟩ = some (.int .i64 th.hh) ∧ W.cell? ⟨g, 4, none⟩ = some (.int .i64 th.mm) ∧ W.cell? ⟨g, 5, none⟩ = some (.int .i64 th.ss) ∧ W.cell? ⟨g, 6, none⟩ = some (.int .i64 th.wk) ∧ W.cell? ⟨g, 7, none⟩ = some (.int .i64 th.yd) :=
  ⟨cell_of_block z 0, cell_of_block z 1, cell_of_block z 2, cell_of_block z 3, cell_of_block z 4, cell_of_block z 5, cell_of_block z 6, cell_of_block z 7⟩
/-- A date stored, number by number. -/
abbrev set8 (W : World) (g : Nat) (th : DateZ) : World := ((((((((W.setCell ⟨g, 0, none⟩ (.int .i64 th.y)).setCell ⟨g, 1, none⟩ (.int .i64 th.m)).setCell ⟨g, 2, none⟩ (.int .i64 th.d)).setCell ⟨g, 3, none⟩ (.int .i64 th.hh)).setCell ⟨g, 4, none⟩ (.int .i64 th.mm)).setCell ⟨g, 5, none⟩ (.int .i64 th.ss)).setCell ⟨g, 6, none⟩ (.int .i64 th.wk)).setCell ⟨g, 7, none⟩ (.int .i64 th.yd))
theorem set8_here {W : World} {g : Nat} (z : W.heap[g]? = some (.cells #[.int .i64 0, .int .i64 0, .int .i64 0, .int .i64 0, .int .i64 0, .int .i64 0, .int .i64 0, .int .i64 0] 32 (0, 0))) (th : DateZ) : (set8 W g th).heap[g]? = some (.cells #[.int .i64 th.y, .int .i64 th.m, .int .i64 th.d, .int .i64 th.hh, .int .i64 th.mm, .int .i64 th.ss, .int .i64 th.wk, .int .i64 th.yd] 32 (0, 0)) := by
  have z := block_setCell z (i := 0) (.int .i64 th.y)
  simp only [List.setIfInBounds_toArray, List.set_cons_zero] at z
  have z := block_setCell z (i := 1) (.int .i64 th.m)
  simp only [List.setIfInBounds_toArray, List.set_cons_zero, List.set_cons_succ] at z
  have z := block_setCell z (i := 2) (.int .i64 th.d)
  simp only [List.setIfInBounds_toArray, List.set_cons_zero, List.set_cons_succ] at z
  have z := block_setCell z (i := 3) (.int .i64 th.hh)
  simp only [List.setIfInBounds_toArray, List.set_cons_zero, List.set_cons_succ] at z
  have z := block_setCell z (i := 4) (.int .i64 th.mm)
  simp only [List.setIfInBounds_toArray, List.set_cons_zero, List.set_cons_succ] at z
  have z := block_setCell z (i := 5) (.int .i64 th.ss)
  simp only [List.setIfInBounds_toArray, List.set_cons_zero, List.set_cons_succ] at z
  have z := block_setCell z (i := 6) (.int .i64 th.wk)
  simp only [List.setIfInBounds_toArray, List.set_cons_zero, List.set_cons_succ] at z
  have z := block_setCell z (i := 7) (.int .i64 th.yd)
  simp only [List.setIfInBounds_toArray, List.set_cons_zero, List.set_cons_succ] at z
  exact z
theorem set8_other (W : World) (g k : Nat) (th : DateZ) (h : k ≠ g) : (set8 W g th).heap[k]? = W.heap[k]? := by
  unfold set8
  rw [Below.heap_setCell _ _ _ _ h, Below.heap_setCell _ _ _ _ h, Below.heap_setCell _ _ _ _ h, Below.heap_setCell _ _ _ _ h, Below.heap_setCell _ _ _ _ h, Below.heap_setCell _ _ _ _ h, Below.heap_setCell _ _ _ _ h, Below.heap_setCell _ _ _ _ h]
theorem set8_below {B : Nat} {a W : World} {g : Nat} (th : DateZ) (h : Below B a W) (hg : B ≤ g) : Below B a (set8 W g th) :=
  ((((((((h.setCell (p := ⟨g, 0, none⟩) hg _).setCell (p := ⟨g, 1, none⟩) hg _).setCell (p := ⟨g, 2, none⟩) hg _).setCell (p := ⟨g, 3, none⟩) hg _).setCell (p := ⟨g, 4, none⟩) hg _).setCell (p := ⟨g, 5, none⟩) hg _).setCell (p := ⟨g, 6, none⟩) hg _).setCell (p := ⟨g, 7, none⟩) hg _)
theorem zero_stays (W : World) {W' : World} (h : Below (W.alloc (.cells #[.int .i64 0, .int .i64 0, .int .i64 0, .int .i64 0, .int .i64 0, .int .i64 0, .int .i64 0, .int .i64 0] 32)).heap.size (W.alloc (.cells #[.int .i64 0, .int .i64 0, .int .i64 0, .int .i64 0, .int .i64 0, .int .i64 0, .int .i64 0, .int .i64 0] 32)) W') : W'.heap[W.heap.size]? = some (.cells #[.int .i64 0, .int .i64 0, .int .i64 0, .int .i64 0, .int .i64 0, .int .i64 0, .int .i64 0, .int .i64 0] 32 (0, 0)) := by
  rw [h.block W.heap.size (by simp)]
  exact Array.getElem?_push_size
theorem zero_stays2 (W : World) {W' : World} (h : Below (W.drew.alloc (.cells #[.int .i64 0, .int .i64 0, .int .i64 0, .int .i64 0, .int .i64 0, .int .i64 0, .int .i64 0, .int .i64 0] 32)).heap.size (W.drew.alloc (.cells #[.int .i64 0, .int .i64 0, .int .i64 0, .int .i64 0, .int .i64 0, .int .i64 0, .int .i64 0, .int .i64 0] 32)) W') : W'.heap[W.heap.size]? = some (.cells #[.int .i64 0, .int .i64 0, .int .i64 0, .int .i64 0, .int .i64 0, .int .i64 0, .int .i64 0, .int .i64 0] 32 (0, 0)) := zero_stays W.drew h
theorem zero_still {W W' : World} {g : Nat} {o : Obj} (z : W.heap[g]? = some o) (h : Below W.heap.size W W') : W'.heap[g]? = some o := (h.block g (Array.getElem?_eq_some_iff.1 z).1).trans z
theorem momAt_open {w' : World} {B : Nat} {x : DateZ} {t : Int} (h : MomAt w' B x t) : w'.cell? ⟨B, 0, none⟩ = some (.int .i64 x.y) ∧ w'.cell? ⟨B, 1, none⟩ = some (.int .i64 x.m) ∧ w'.cell? ⟨B, 2, none⟩ = some (.int .i64 x.d) ∧ w'.cell? ⟨B, 3, none⟩ = some (.int .i64 x.hh) ∧ w'.cell? ⟨B, 4, none⟩ = some (.int .i64 x.mm) ∧ w'.cell? ⟨B, 5, none⟩ = some (.int .i64 x.ss) ∧ w'.cell? ⟨B, 6, none⟩ = some (.int .i64 x.wk) ∧ w'.cell? ⟨B, 7, none⟩ = some (.int .i64 x.yd) ∧ w'.cell? ⟨B, 8, none⟩ = some (.int .i64 t) := h
theorem MomAt.below {W W' : World} {B C : Nat} {x : DateZ} {t : Int} (h : MomAt W B x t) (hb : Below C W W') (hC : W.heap.size ≤ C) : MomAt W' B x t := by
  obtain ⟨h0, h1, h2, h3, h4, h5, h6, h7, h8⟩ := h
  exact ⟨cell_below h0 hb hC, cell_below h1 hb hC, cell_below h2 hb hC, cell_below h3 hb hC, cell_below h4 hb hC, cell_below h5 hb hC, cell_below h6 hb hC, cell_below h7 hb hC, cell_below h8 hb hC⟩
theorem MomAt.set8 {W : World} {B g : Nat} {x : DateZ} {t : Int} (h : MomAt W B x t) (th : DateZ) (hg : B ≠ g) : MomAt (set8 W g th) B x t := by
  have key : ∀ i, (Go.Proofs.YtelhbkfhalpniaaDoor.set8 W g th).cell? ⟨B, i, none⟩ = W.cell? ⟨B, i, none⟩ := fun i => World.cell?_of_block (w := W) (set8_other W g B th hg)
  obtain ⟨h0, h1, h2, h3, h4, h5, h6, h7, h8⟩ := h
  exact ⟨(key 0).trans h0, (key 1).trans h1, (key 2).trans h2, (key 3).trans h3, (key 4).trans h4, (key 5).trans h5, (key 6).trans h6, (key 7).trans h7, (key 8).trans h8⟩
def momO (x : DateZ) (t : Int) : Obj := .cells #[.int .i64 x.y, .int .i64 x.m, .int .i64 x.d, .int .i64 x.hh, .int .i64 x.mm, .int .i64 x.ss, .int .i64 x.wk, .int .i64 x.yd, .int .i64 t] 36
def calDateO : Obj := .cells #[.int .i64 0, .int .i64 0, .int .i64 0, .int .i64 0, .int .i64 0, .int .i64 0, .int .i64 0, .int .i64 0] 32
theorem calFirst_new (w : World) (a b : Obj) : ((w.alloc a).alloc b).heap[w.heap.size]? = some a := by
  rw [Below.heap_alloc _ _ _ (by simp)]
  show (w.heap.push a)[w.heap.size]? = some a
  exact Array.getElem?_push_size
theorem calSecond_new (w : World) (a b : Obj) : ((w.alloc a).alloc b).heap[w.heap.size + 1]? = some b := by
  show ((w.alloc a).heap.push b)[w.heap.size + 1]? = some b
  have e : w.heap.size + 1 = (w.alloc a).heap.size := by simp
  rw [e]
  exact Array.getElem?_push_size
theorem momAt_new (w : World) (x : DateZ) (t : Int) (b : Obj) : MomAt ((w.alloc (momO x t)).alloc b) w.heap.size x t := by
  have h := calFirst_new w (momO x t) b
  exact ⟨cell_of_block h 0, cell_of_block h 1, cell_of_block h 2, cell_of_block h 3, cell_of_block h 4, cell_of_block h 5, cell_of_block h 6, cell_of_block h 7, cell_of_block h 8⟩
set_option maxRecDepth 100000 in
set_option maxHeartbeats 2000000 in
theorem thursday_any (x th : DateZ) (t : Int) (w : World) (hM : CalMem w) (h : DateIs t x) (h1 : -62135596800 ≤ t) (h2 : t ≤ 253402300799) (hth : DateIs (t + (3 - (x.wk + 6) % 7) * 86400) th) : Calls Tryd.prog 64 #[momV x t] w fun e w' => e = .returned (dateV th) ∧ Below w.heap.size w w' := by
  obtain ⟨u1, u2⟩ := h.thu h1 h2
  have hF := h.fair h1 h2
  obtain ⟨s, hs⟩ : ∃ s, (x.wk + 6) % 7 = s := ⟨_, rfl⟩
  have hsb : 0 ≤ s ∧ s < 7 := by omega
  have CS := fun (W : World) => sinceMonday_any x t W hF
  rw [hs] at u1 u2 hth CS
  obtain ⟨t2, ht2⟩ : ∃ t2, t + (3 - s) * 86400 = t2 := ⟨_, rfl⟩
  rw [ht2] at u1 u2 hth
  have CO := (fun (W : World) (hA : AhMem W) => of_yes t2 th W hth u1 u2 hA)
  unfold dateV at CO
  have CO := Lib.hid CO
  unfold momV at CS
  have CS := Lib.hid CS
  have HM := Lib.hid hM.ah
  have ht2' : IntKind.i64.wrap (t + (3 - s) * 86400) = t2 := by rw [IntKind.wrap_i64]; omega
  have hw1 : IntKind.i64.wrap (3 - s) = 3 - s := by rw [IntKind.wrap_i64]; omega
  have hw2 : IntKind.i64.wrap ((3 - s) * 86400) = (3 - s) * 86400 := by rw [IntKind.wrap_i64]; omega
  have hw3 : IntKind.i64.wrap t2 = t2 := by rw [IntKind.wrap_i64]; omega
  clear hF hs hth hM h
  unfold momV
  go_enter Tryd.func64, Tryd.ntmps64
  go_wp2_with fail
  have hbB : Below w.heap.size w ((w.alloc (momO x t)).alloc calDateO) := below_alloc2 w _ _
  have hA2 := HM.out.below hbB (Nat.le_refl _)
  have hs2 : ((w.alloc (momO x t)).alloc calDateO).heap.size = w.heap.size + 2 := by simp
  have hI := momAt_new w x t calDateO
  have hD := calSecond_new w (momO x t) calDateO
  unfold momO calDateO at hbB hA2 hs2 hI hD
  obtain ⟨W2, hW2⟩ : ∃ W2, (w.alloc (.cells #[.int .i64 x.y, .int .i64 x.m, .int .i64 x.d, .int .i64 x.hh, .int .i64 x.mm, .int .i64 x.ss, .int .i64 x.wk, .int .i64 x.yd, .int .i64 t] 36)).alloc (.cells #[.int .i64 0, .int .i64 0, .int .i64 0, .int .i64 0, .int .i64 0, .int .i64 0, .int .i64 0, .int .i64 0] 32) = W2 := ⟨_, rfl⟩
  rw [hW2] at hbB hA2 hs2 hI hD ⊢
  clear hW2
  obtain ⟨B, hB⟩ : ∃ B, w.heap.size = B := ⟨_, rfl⟩
  rw [hB] at hbB hs2 hI hD ⊢
  have HI := Lib.hid hI
  have HD := Lib.hid hD
  have HA := Lib.hid hA2
  have HS := Lib.hid hs2
  have HB := Lib.hid hB
  have HBB := Lib.hid hbB
  clear hD hA2 hs2 hB hbB HM
  unfold MomAt at hI
  obtain ⟨c0, c1, c2, c3, c4, c5, c6, c7, c8⟩ := hI
  go_region_held3 (fun w' => w'.cell? ⟨B, 0, none⟩ = some (.int .i64 x.y) ∧ w'.cell? ⟨B, 1, none⟩ = some (.int .i64 x.m) ∧ w'.cell? ⟨B, 2, none⟩ = some (.int .i64 x.d) ∧ w'.cell? ⟨B, 3, none⟩ = some (.int .i64 x.hh) ∧ w'.cell? ⟨B, 4, none⟩ = some (.int .i64 x.mm) ∧ w'.cell? ⟨B, 5, none⟩ = some (.int .i64 x.ss) ∧ w'.cell? ⟨B, 6, none⟩ = some (.int .i64 x.wk) ∧ w'.cell? ⟨B, 7, none⟩ = some (.int .i64 x.yd) ∧ w'.cell? ⟨B, 8, none⟩ = some (.int .i64 t))
    (first | (with_reducible exact S3) | (with_reducible exact S2) | (with_reducible exact S1) | go_keep)
    (first
    | (go_at_call 62; (with_reducible refine (CS.out W2.drew).mono ?_); rintro e W3 ⟨rfl, h3⟩; have b3 : Below W2.heap.size W2 W3 := first_bel (Below.drew (Below.refl _ _)) h3; have S1 := momAt_open (HI.out.below b3 (Nat.le_refl _)); clear h3)
    | (go_at_call 62; (with_reducible refine (CS.out _).mono ?_); rintro e W3 ⟨rfl, h3⟩; have b3 : Below W2.heap.size W2 W3 := first_bel (Below.alloc (Below.drew (Below.refl _ _)) (Nat.le_refl _) _) h3; have S1 := momAt_open (HI.out.below b3 (Nat.le_refl _)); have z3 := zero_stays2 W2 h3; clear h3)
    | (go_at_call 10; (with_reducible refine (CO.out _ (HA.out.below b3 (Nat.le_refl _))).mono ?_); rintro e W4 ⟨rfl, h4⟩; have b4 : Below W2.heap.size W2 W4 := b3.trans (h4.mono b3.size); have z4 := zero_still z3 h4; have S2 := momAt_open (HI.out.below b4 (Nat.le_refl _)); obtain ⟨q0, q1, q2, q3, q4, q5, q6, q7, y0, y1, y2, y3, y4, y5, y6, y7⟩ := zero_facts z4; have Z4 := Lib.hid z4; clear z4; have S3 := momAt_open ((HI.out.below b4 (Nat.le_refl _)).set8 th (show B ≠ W2.heap.size by have := HS.out; omega)); clear h4 z3)
    | (go_at_call 10; (with_reducible refine (CO.out _ (HA.out.below b3 (Nat.le_refl _))).mono ?_); rintro e W4 ⟨rfl, h4⟩; have b4 : Below W2.heap.size W2 W4 := b3.trans (h4.mono b3.size); have S2 := momAt_open (HI.out.below b4 (Nat.le_refl _)); clear h4)
    | (go_at_call 10; (with_reducible refine (CO.out _ (HA.out.below (b3.alloc b3.size _) (Nat.le_refl _))).mono ?_); rintro e W4 ⟨rfl, h4⟩; have b4 : Below W2.heap.size W2 W4 := first_bel (b3.alloc b3.size _) h4; have z4 := zero_stays W3 h4; have S2 := momAt_open (HI.out.below b4 (Nat.le_refl _)); obtain ⟨q0, q1, q2, q3, q4, q5, q6, q7, y0, y1, y2, y3, y4, y5, y6, y7⟩ := zero_facts z4; have Z4 := Lib.hid z4; clear z4; have S3 := momAt_open ((HI.out.below b4 (Nat.le_refl _)).set8 th (show B ≠ W3.heap.size by have := HS.out; have := b3.size; omega)); clear h4))
  all_goals
    clear hw1 hw2 hw3 ht2 u1 u2 h1 h2 hsb c0 c1 c2 c3 c4 c5 c6 c7 c8
    first
    | (clear q0 q1 q2 q3 q4 q5 q6 q7 y0 y1 y2 y3 y4 y5 y6 y7 S1 S2 S3; rename_i hHeld; clear hHeld)
    | (clear S1 S2; rename_i hHeld; clear hHeld)
  all_goals first
    | (have Z5 : W4.heap[W3.heap.size]? = some _ := Z4.out; have f3 := set8_here Z4.out th; have bX := set8_below th b4 b3.size; have fD := (set8_other W4 W3.heap.size (B + 1) th (by have := HS.out; have := b3.size; omega)).trans (zero_still HD.out b4); obtain ⟨X, hX⟩ : ∃ X, set8 W4 W3.heap.size th = X := ⟨_, rfl⟩; unfold set8 at hX bX fD f3; rw [hX] at bX fD f3 ⊢; clear hX; obtain ⟨g3, hg3⟩ : ∃ g3, W3.heap.size = g3 := ⟨_, rfl⟩; rw [hg3] at f3 ⊢; clear hg3)
    | (have Z5 : W4.heap[W2.heap.size]? = some _ := Z4.out; have f3 := set8_here Z4.out th; have bX := set8_below th b4 (Nat.le_refl _); have fD := (set8_other W4 W2.heap.size (B + 1) th (by have := HS.out; omega)).trans (zero_still HD.out b4); obtain ⟨X, hX⟩ : ∃ X, set8 W4 W2.heap.size th = X := ⟨_, rfl⟩; unfold set8 at hX bX fD f3; rw [hX] at bX fD f3 ⊢; clear hX; obtain ⟨g3, hg3⟩ : ∃ g3, W2.heap.size = g3 := ⟨_, rfl⟩; rw [hg3] at f3 ⊢; clear hg3)
    | (have f3 := heap_alloc_new W4 (.cells #[.int .i64 th.y, .int .i64 th.m, .int .i64 th.d, .int .i64 th.hh, .int .i64 th.mm, .int .i64 th.ss, .int .i64 th.wk, .int .i64 th.yd] 32); have bX := Below.alloc b4 b4.size (.cells #[.int .i64 th.y, .int .i64 th.m, .int .i64 th.d, .int .i64 th.hh, .int .i64 th.mm, .int .i64 th.ss, .int .i64 th.wk, .int .i64 th.yd] 32); have fD := (Below.heap_alloc W4 (.cells #[.int .i64 th.y, .int .i64 th.m, .int .i64 th.d, .int .i64 th.hh, .int .i64 th.mm, .int .i64 th.ss, .int .i64 th.wk, .int .i64 th.yd] 32) (B + 1) (by have := HS.out; have := b4.size; omega)).trans (zero_still HD.out b4); obtain ⟨X, hX⟩ : ∃ X, W4.alloc (.cells #[.int .i64 th.y, .int .i64 th.m, .int .i64 th.d, .int .i64 th.hh, .int .i64 th.mm, .int .i64 th.ss, .int .i64 th.wk, .int .i64 th.yd] 32) = X := ⟨_, rfl⟩; rw [hX] at bX fD f3 ⊢; clear hX; obtain ⟨g3, hg3⟩ : ∃ g3, W4.heap.size = g3 := ⟨_, rfl⟩; rw [hg3] at f3 ⊢; clear hg3)
  all_goals
    clear b3 b4
    have hBX : Below B w X := HBB.out.trans (bX.mono (by have := HS.out; omega))
    have HBX := Lib.hid hBX
    have FD := Lib.hid fD
    obtain ⟨k0, k1, k2, k3, k4, k5, k6, k7⟩ := date_facts f3
    obtain ⟨q0, q1, q2, q3, q4, q5, q6, q7, y0, y1, y2, y3, y4, y5, y6, y7⟩ := zero_facts fD
    clear f3 fD hBX bX
    go_wp2_with fail
    refine bodyPost_ret (results_cell_row rfl _ _ (B + 1) _ _ _ _ rfl (set8_here FD.out th) Tryd.underlying32 rfl (by kernel_rfl)) rfl ⟨rfl, ?_⟩
    rw [HB.out]
    exact set8_below th HBX.out (by omega)
end Go.Proofs.YtelhbkfhalpniaaDoor

namespace Go.Proofs.YtelhbkfhalpniaaDoor
open Go.RowKit Go.Lib Go.Joins

theorem momAt_new1 (w : World) (x : DateZ) (t : Int) : MomAt (w.alloc (momO x t)) w.heap.size x t := by
  have h := heap_alloc_new w (momO x t)
  exact ⟨cell_of_block h 0, cell_of_block h 1, cell_of_block h 2, cell_of_block h 3, cell_of_block h 4, cell_of_block h 5, cell_of_block h 6, cell_of_block h 7, cell_of_block h 8⟩
set_option maxRecDepth 100000 in
theorem run_field8 (w : World) (a b c d e f g h : Value) (i : Nat) (hi : i < 8) : (Instr.field 32 (.agg #[a, b, c, d, e, f, g, h]) i).run Tryd.prog w = .ok (#[a, b, c, d, e, f, g, h].getD i undef) w := by
  simp only [Instr.field, run_underlying Tryd.underlying32, Sem.run_bind, Result.andThen]
  have hk : i = 0 ∨ i = 1 ∨ i = 2 ∨ i = 3 ∨ i = 4 ∨ i = 5 ∨ i = 6 ∨ i = 7 := by omega
  rcases hk with rfl | rfl | rfl | rfl | rfl | rfl | rfl | rfl <;> rfl
@[local go_sem] theorem run_field8_0 (w : World) (a b c d e f g h : Value) : (Instr.field 32 (.agg #[a, b, c, d, e, f, g, h]) 0).run Tryd.prog w = .ok a w := run_field8 w a b c d e f g h 0 (by decide)
@[local go_sem] theorem run_field8_7 (w : World) (a b c d e f g h : Value) : (Instr.field 32 (.agg #[a, b, c, d, e, f, g, h]) 7).run Tryd.prog w = .ok h w := run_field8 w a b c d e f g h 7 (by decide)
theorem Fair.th {t : Int} {x th : DateZ} (h : DateIs t x) (h1 : -62135596800 ≤ t) (h2 : t ≤ 253402300799) (hth : DateIs (t + (3 - (x.wk + 6) % 7) * 86400) th) : Fair th := hth.fair (h.thu h1 h2).1 (h.thu h1 h2).2
set_option maxRecDepth 100000 in
set_option maxHeartbeats 2000000 in
theorem num_Yc (x : DateZ) (t : Int) (w : World) (h : Fair x) : Calls Tryd.prog 46 #[momV x t, .int .u8 89] w fun e w' => e = .returned (.tuple #[.int .i64 (x.y), .int .i64 1, .bool true]) ∧ Below w.heap.size w w' := by
  have H := Lib.hid h
  obtain ⟨⟨y1, y2⟩, ⟨m1, m2⟩, ⟨d1, d2⟩, ⟨h1, h2⟩, ⟨n1, n2⟩, ⟨s1, s2⟩, ⟨k1, k2⟩, ⟨j1, j2⟩⟩ := h
  unfold momV
  go_enter Tryd.func46, Tryd.ntmps46
  go_wp2_with fail
  go_ret3
  exact ⟨rfl, below_alloc1 w _⟩
set_option maxRecDepth 100000 in
set_option maxHeartbeats 2000000 in
theorem num_Cc (x : DateZ) (t : Int) (w : World) (h : Fair x) : Calls Tryd.prog 46 #[momV x t, .int .u8 67] w fun e w' => e = .returned (.tuple #[.int .i64 (x.y / 100), .int .i64 2, .bool true]) ∧ Below w.heap.size w w' := by
  have H := Lib.hid h
  obtain ⟨⟨y1, y2⟩, ⟨m1, m2⟩, ⟨d1, d2⟩, ⟨h1, h2⟩, ⟨n1, n2⟩, ⟨s1, s2⟩, ⟨k1, k2⟩, ⟨j1, j2⟩⟩ := h
  unfold momV
  go_enter Tryd.func46, Tryd.ntmps46
  go_wp2_with fail
  go_ret3
  exact ⟨rfl, below_alloc1 w _⟩
set_option maxRecDepth 100000 in
set_option maxHeartbeats 2000000 in
theorem num_y (x : DateZ) (t : Int) (w : World) (h : Fair x) : Calls Tryd.prog 46 #[momV x t, .int .u8 121] w fun e w' => e = .returned (.tuple #[.int .i64 (x.y % 100), .int .i64 2, .bool true]) ∧ Below w.heap.size w w' := by
  have H := Lib.hid h
  obtain ⟨⟨y1, y2⟩, ⟨m1, m2⟩, ⟨d1, d2⟩, ⟨h1, h2⟩, ⟨n1, n2⟩, ⟨s1, s2⟩, ⟨k1, k2⟩, ⟨j1, j2⟩⟩ := h
  unfold momV
  go_enter Tryd.func46, Tryd.ntmps46
  go_wp2_with fail
  go_ret3
  exact ⟨rfl, below_alloc1 w _⟩
set_option maxRecDepth 100000 in
set_option maxHeartbeats 2000000 in
theorem num_m (x : DateZ) (t : Int) (w : World) (h : Fair x) : Calls Tryd.prog 46 #[momV x t, .int .u8 109] w fun e w' => e = .returned (.tuple #[.int .i64 (x.m), .int .i64 2, .bool true]) ∧ Below w.heap.size w w' := by
  have H := Lib.hid h
  obtain ⟨⟨y1, y2⟩, ⟨m1, m2⟩, ⟨d1, d2⟩, ⟨h1, h2⟩, ⟨n1, n2⟩, ⟨s1, s2⟩, ⟨k1, k2⟩, ⟨j1, j2⟩⟩ := h
  unfold momV
  go_enter Tryd.func46, Tryd.ntmps46
  go_wp2_with fail
  go_ret3
  exact ⟨rfl, below_alloc1 w _⟩
set_option maxRecDepth 100000 in
set_option maxHeartbeats 2000000 in
theorem num_d (x : DateZ) (t : Int) (w : World) (h : Fair x) : Calls Tryd.prog 46 #[momV x t, .int .u8 100] w fun e w' => e = .returned (.tuple #[.int .i64 (x.d), .int .i64 2, .bool true]) ∧ Below w.heap.size w w' := by
  have H := Lib.hid h
  obtain ⟨⟨y1, y2⟩, ⟨m1, m2⟩, ⟨d1, d2⟩, ⟨h1, h2⟩, ⟨n1, n2⟩, ⟨s1, s2⟩, ⟨k1, k2⟩, ⟨j1, j2⟩⟩ := h
  unfold momV
  go_enter Tryd.func46, Tryd.ntmps46
  go_wp2_with fail
  go_ret3
  exact ⟨rfl, below_alloc1 w _⟩
set_option maxRecDepth 100000 in
set_option maxHeartbeats 2000000 in
theorem num_Hc (x : DateZ) (t : Int) (w : World) (h : Fair x) : Calls Tryd.prog 46 #[momV x t, .int .u8 72] w fun e w' => e = .returned (.tuple #[.int .i64 (x.hh), .int .i64 2, .bool true]) ∧ Below w.heap.size w w' := by
  have H := Lib.hid h
  obtain ⟨⟨y1, y2⟩, ⟨m1, m2⟩, ⟨d1, d2⟩, ⟨h1, h2⟩, ⟨n1, n2⟩, ⟨s1, s2⟩, ⟨k1, k2⟩, ⟨j1, j2⟩⟩ := h
  unfold momV
  go_enter Tryd.func46, Tryd.ntmps46
  go_wp2_with fail
  go_ret3
  exact ⟨rfl, below_alloc1 w _⟩
set_option maxRecDepth 100000 in
set_option maxHeartbeats 2000000 in
theorem num_Ic (x : DateZ) (t : Int) (w : World) (h : Fair x) : Calls Tryd.prog 46 #[momV x t, .int .u8 73] w fun e w' => e = .returned (.tuple #[.int .i64 ((x.hh + 11) % 12 + 1), .int .i64 2, .bool true]) ∧ Below w.heap.size w w' := by
  have H := Lib.hid h
  obtain ⟨⟨y1, y2⟩, ⟨m1, m2⟩, ⟨d1, d2⟩, ⟨h1, h2⟩, ⟨n1, n2⟩, ⟨s1, s2⟩, ⟨k1, k2⟩, ⟨j1, j2⟩⟩ := h
  unfold momV
  go_enter Tryd.func46, Tryd.ntmps46
  go_wp2_with fail
  go_ret3
  exact ⟨rfl, below_alloc1 w _⟩
set_option maxRecDepth 100000 in
set_option maxHeartbeats 2000000 in
theorem num_Mc (x : DateZ) (t : Int) (w : World) (h : Fair x) : Calls Tryd.prog 46 #[momV x t, .int .u8 77] w fun e w' => e = .returned (.tuple #[.int .i64 (x.mm), .int .i64 2, .bool true]) ∧ Below w.heap.size w w' := by
  have H := Lib.hid h
  obtain ⟨⟨y1, y2⟩, ⟨m1, m2⟩, ⟨d1, d2⟩, ⟨h1, h2⟩, ⟨n1, n2⟩, ⟨s1, s2⟩, ⟨k1, k2⟩, ⟨j1, j2⟩⟩ := h
  unfold momV
  go_enter Tryd.func46, Tryd.ntmps46
  go_wp2_with fail
  go_ret3
  exact ⟨rfl, below_alloc1 w _⟩
set_option maxRecDepth 100000 in
set_option maxHeartbeats 2000000 in
theorem num_Sc (x : DateZ) (t : Int) (w : World) (h : Fair x) : Calls Tryd.prog 46 #[momV x t, .int .u8 83] w fun e w' => e = .returned (.tuple #[.int .i64 (x.ss), .int .i64 2, .bool true]) ∧ Below w.heap.size w w' := by
  have H := Lib.hid h
  obtain ⟨⟨y1, y2⟩, ⟨m1, m2⟩, ⟨d1, d2⟩, ⟨h1, h2⟩, ⟨n1, n2⟩, ⟨s1, s2⟩, ⟨k1, k2⟩, ⟨j1, j2⟩⟩ := h
  unfold momV
  go_enter Tryd.func46, Tryd.ntmps46
  go_wp2_with fail
  go_ret3
  exact ⟨rfl, below_alloc1 w _⟩
set_option maxRecDepth 100000 in
set_option maxHeartbeats 2000000 in
theorem num_j (x : DateZ) (t : Int) (w : World) (h : Fair x) : Calls Tryd.prog 46 #[momV x t, .int .u8 106] w fun e w' => e = .returned (.tuple #[.int .i64 (x.yd), .int .i64 3, .bool true]) ∧ Below w.heap.size w w' := by
  have H := Lib.hid h
  obtain ⟨⟨y1, y2⟩, ⟨m1, m2⟩, ⟨d1, d2⟩, ⟨h1, h2⟩, ⟨n1, n2⟩, ⟨s1, s2⟩, ⟨k1, k2⟩, ⟨j1, j2⟩⟩ := h
  unfold momV
  go_enter Tryd.func46, Tryd.ntmps46
  go_wp2_with fail
  go_ret3
  exact ⟨rfl, below_alloc1 w _⟩
set_option maxRecDepth 100000 in
set_option maxHeartbeats 2000000 in
theorem num_w (x : DateZ) (t : Int) (w : World) (h : Fair x) : Calls Tryd.prog 46 #[momV x t, .int .u8 119] w fun e w' => e = .returned (.tuple #[.int .i64 (x.wk), .int .i64 1, .bool true]) ∧ Below w.heap.size w w' := by
  have H := Lib.hid h
  obtain ⟨⟨y1, y2⟩, ⟨m1, m2⟩, ⟨d1, d2⟩, ⟨h1, h2⟩, ⟨n1, n2⟩, ⟨s1, s2⟩, ⟨k1, k2⟩, ⟨j1, j2⟩⟩ := h
  unfold momV
  go_enter Tryd.func46, Tryd.ntmps46
  go_wp2_with fail
  go_ret3
  exact ⟨rfl, below_alloc1 w _⟩
set_option maxRecDepth 100000 in
set_option maxHeartbeats 2000000 in
theorem num_u (x : DateZ) (t : Int) (w : World) (h : Fair x) : Calls Tryd.prog 46 #[momV x t, .int .u8 117] w fun e w' => e = .returned (.tuple #[.int .i64 ((x.wk + 6) % 7 + 1), .int .i64 1, .bool true]) ∧ Below w.heap.size w w' := by
  have H := Lib.hid h
  obtain ⟨⟨y1, y2⟩, ⟨m1, m2⟩, ⟨d1, d2⟩, ⟨h1, h2⟩, ⟨n1, n2⟩, ⟨s1, s2⟩, ⟨k1, k2⟩, ⟨j1, j2⟩⟩ := h
  have CS := fun (W : World) => sinceMonday_any x t W H.out
  obtain ⟨sm, hsm⟩ : ∃ sm, (x.wk + 6) % 7 = sm := ⟨_, rfl⟩
  have hsb : 0 ≤ sm ∧ sm < 7 := by omega
  rw [hsm] at CS ⊢
  unfold momV at CS
  have CS := Lib.hid CS
  clear hsm
  unfold momV
  go_enter Tryd.func46, Tryd.ntmps46
  go_wp2_with fail
  refine (CS.out _).mono ?_
  rintro e w' ⟨rfl, hB⟩
  have HB := Lib.hid hB
  clear hB
  go_wp2_with fail
  go_ret3
  exact ⟨rfl, first_bel (below_alloc1 w _) HB.out⟩
set_option maxRecDepth 100000 in
set_option maxHeartbeats 2000000 in
theorem num_Uc (x : DateZ) (t : Int) (w : World) (h : Fair x) : Calls Tryd.prog 46 #[momV x t, .int .u8 85] w fun e w' => e = .returned (.tuple #[.int .i64 ((x.yd - x.wk + 6) / 7), .int .i64 2, .bool true]) ∧ Below w.heap.size w w' := by
  have H := Lib.hid h
  obtain ⟨⟨y1, y2⟩, ⟨m1, m2⟩, ⟨d1, d2⟩, ⟨h1, h2⟩, ⟨n1, n2⟩, ⟨s1, s2⟩, ⟨k1, k2⟩, ⟨j1, j2⟩⟩ := h
  unfold momV
  go_enter Tryd.func46, Tryd.ntmps46
  go_wp2_with fail
  refine (weeksBegun_any _ _ _ j1 j2 k1 k2).mono ?_
  rintro e w' ⟨rfl, rfl⟩
  go_wp2_with fail
  go_ret3
  exact ⟨rfl, below_alloc1 w _⟩
set_option maxRecDepth 100000 in
set_option maxHeartbeats 2000000 in
theorem num_Wc (x : DateZ) (t : Int) (w : World) (h : Fair x) : Calls Tryd.prog 46 #[momV x t, .int .u8 87] w fun e w' => e = .returned (.tuple #[.int .i64 ((x.yd - (x.wk + 6) % 7 + 6) / 7), .int .i64 2, .bool true]) ∧ Below w.heap.size w w' := by
  have H := Lib.hid h
  obtain ⟨⟨y1, y2⟩, ⟨m1, m2⟩, ⟨d1, d2⟩, ⟨h1, h2⟩, ⟨n1, n2⟩, ⟨s1, s2⟩, ⟨k1, k2⟩, ⟨j1, j2⟩⟩ := h
  have CS := fun (W : World) => sinceMonday_any x t W H.out
  obtain ⟨sm, hsm⟩ : ∃ sm, (x.wk + 6) % 7 = sm := ⟨_, rfl⟩
  have hsb : 0 ≤ sm ∧ sm < 7 := by omega
  rw [hsm] at CS ⊢
  unfold momV at CS
  have CS := Lib.hid CS
  clear hsm
  unfold momV
  go_enter Tryd.func46, Tryd.ntmps46
  go_wp2_with fail
  have hI := momAt_new1 w x t
  have hbB := below_alloc1 w (momO x t)
  unfold momO at hI hbB
  obtain ⟨W2, hW2⟩ : ∃ W2, w.alloc (.cells #[.int .i64 x.y, .int .i64 x.m, .int .i64 x.d, .int .i64 x.hh, .int .i64 x.mm, .int .i64 x.ss, .int .i64 x.wk, .int .i64 x.yd, .int .i64 t] 36) = W2 := ⟨_, rfl⟩
  rw [hW2] at hbB hI ⊢
  clear hW2
  have HBB := Lib.hid hbB
  obtain ⟨B, hB⟩ : ∃ B, w.heap.size = B := ⟨_, rfl⟩
  rw [hB] at hI ⊢
  have HI := Lib.hid hI
  have HB := Lib.hid hB
  clear hB hbB
  unfold MomAt at hI
  obtain ⟨c0, c1, c2, c3, c4, c5, c6, c7, c8⟩ := hI
  go_region_held3 (fun w' => w'.cell? ⟨B, 0, none⟩ = some (.int .i64 x.y) ∧ w'.cell? ⟨B, 1, none⟩ = some (.int .i64 x.m) ∧ w'.cell? ⟨B, 2, none⟩ = some (.int .i64 x.d) ∧ w'.cell? ⟨B, 3, none⟩ = some (.int .i64 x.hh) ∧ w'.cell? ⟨B, 4, none⟩ = some (.int .i64 x.mm) ∧ w'.cell? ⟨B, 5, none⟩ = some (.int .i64 x.ss) ∧ w'.cell? ⟨B, 6, none⟩ = some (.int .i64 x.wk) ∧ w'.cell? ⟨B, 7, none⟩ = some (.int .i64 x.yd) ∧ w'.cell? ⟨B, 8, none⟩ = some (.int .i64 t))
    (first | (with_reducible exact S1) | go_keep)
    (first
    | (go_at_call 62; (with_reducible refine (CS.out W2.drew).mono ?_); rintro e W3 ⟨rfl, h3⟩; have b3 : Below W2.heap.size W2 W3 := first_bel (Below.drew (Below.refl _ _)) h3; have S1 := momAt_open (HI.out.below b3 (Nat.le_refl _)); clear h3)
    | (go_at_call 63; (with_reducible refine (weeksBegun_any _ _ _ j1 j2 hsb.1 hsb.2).mono ?_); rintro e W4 ⟨rfl, rfl⟩))
  have HB3 := Lib.hid b3
  clear b3 c0 c1 c2 c3 c4 c5 c6 c7 c8
  go_wp2_with fail
  go_ret3
  exact ⟨rfl, first_bel HBB.out (HB3.out)⟩
set_option maxRecDepth 100000 in
set_option maxHeartbeats 2000000 in
theorem num_Vc (x th : DateZ) (t : Int) (w : World) (hM : CalMem w) (hx : DateIs t x) (u1 : -62135596800 ≤ t) (u2 : t ≤ 253402300799) (hth : DateIs (t + (3 - (x.wk + 6) % 7) * 86400) th) : Calls Tryd.prog 46 #[momV x t, .int .u8 86] w fun e w' => e = .returned (.tuple #[.int .i64 ((th.yd - 1) / 7 + 1), .int .i64 2, .bool true]) ∧ Below w.heap.size w w' := by
  have hM' := hM.below (below_alloc1 w (momO x t)) (Nat.le_refl _)
  have CT := thursday_any x th t _ hM' hx u1 u2 hth
  obtain ⟨⟨y1, y2⟩, _, _, _, _, _, _, ⟨j1, j2⟩⟩ := Fair.th hx u1 u2 hth
  unfold momV dateV momO at CT
  have CT := Lib.hid CT
  clear hM hM' hx hth
  unfold momV
  go_enter Tryd.func46, Tryd.ntmps46
  go_wp2_with fail
  refine CT.out.mono ?_
  rintro e w' ⟨rfl, hB⟩
  have HB := Lib.hid hB
  clear hB
  go_wp2_with fail
  go_ret3
  exact ⟨rfl, first_bel (below_alloc1 w _) HB.out⟩
set_option maxRecDepth 100000 in
set_option maxHeartbeats 2000000 in
theorem num_Gc (x th : DateZ) (t : Int) (w : World) (hM : CalMem w) (hx : DateIs t x) (u1 : -62135596800 ≤ t) (u2 : t ≤ 253402300799) (hth : DateIs (t + (3 - (x.wk + 6) % 7) * 86400) th) : Calls Tryd.prog 46 #[momV x t, .int .u8 71] w fun e w' => e = .returned (.tuple #[.int .i64 (th.y), .int .i64 1, .bool true]) ∧ Below w.heap.size w w' := by
  have hM' := hM.below (below_alloc1 w (momO x t)) (Nat.le_refl _)
  have CT := thursday_any x th t _ hM' hx u1 u2 hth
  obtain ⟨⟨y1, y2⟩, _, _, _, _, _, _, ⟨j1, j2⟩⟩ := Fair.th hx u1 u2 hth
  unfold momV dateV momO at CT
  have CT := Lib.hid CT
  clear hM hM' hx hth
  unfold momV
  go_enter Tryd.func46, Tryd.ntmps46
  go_wp2_with fail
  refine CT.out.mono ?_
  rintro e w' ⟨rfl, hB⟩
  have HB := Lib.hid hB
  clear hB
  go_wp2_with fail
  go_ret3
  exact ⟨rfl, first_bel (below_alloc1 w _) HB.out⟩
set_option maxRecDepth 100000 in
set_option maxHeartbeats 2000000 in
theorem num_g (x th : DateZ) (t : Int) (w : World) (hM : CalMem w) (hx : DateIs t x) (u1 : -62135596800 ≤ t) (u2 : t ≤ 253402300799) (hth : DateIs (t + (3 - (x.wk + 6) % 7) * 86400) th) : Calls Tryd.prog 46 #[momV x t, .int .u8 103] w fun e w' => e = .returned (.tuple #[.int .i64 (th.y % 100), .int .i64 2, .bool true]) ∧ Below w.heap.size w w' := by
  have hM' := hM.below (below_alloc1 w (momO x t)) (Nat.le_refl _)
  have CT := thursday_any x th t _ hM' hx u1 u2 hth
  obtain ⟨⟨y1, y2⟩, _, _, _, _, _, _, ⟨j1, j2⟩⟩ := Fair.th hx u1 u2 hth
  unfold momV dateV momO at CT
  have CT := Lib.hid CT
  clear hM hM' hx hth
  unfold momV
  go_enter Tryd.func46, Tryd.ntmps46
  go_wp2_with fail
  refine CT.out.mono ?_
  rintro e w' ⟨rfl, hB⟩
  have HB := Lib.hid hB
  clear hB
  go_wp2_with fail
  go_ret3
  exact ⟨rfl, first_bel (below_alloc1 w _) HB.out⟩
set_option maxRecDepth 100000 in
set_option maxHeartbeats 2000000 in
theorem num_s (x : DateZ) (t : Int) (w : World) (h : Fair x) : Calls Tryd.prog 46 #[momV x t, .int .u8 115] w fun e w' => e = .returned (.tuple #[.int .i64 (t), .int .i64 1, .bool true]) ∧ Below w.heap.size w w' := by
  have H := Lib.hid h
  obtain ⟨⟨y1, y2⟩, ⟨m1, m2⟩, ⟨d1, d2⟩, ⟨h1, h2⟩, ⟨n1, n2⟩, ⟨s1, s2⟩, ⟨k1, k2⟩, ⟨j1, j2⟩⟩ := h
  unfold momV
  go_enter Tryd.func46, Tryd.ntmps46
  go_wp2_with fail
  go_ret3
  exact ⟨rfl, below_alloc1 w _⟩
end Go.Proofs.YtelhbkfhalpniaaDoor
