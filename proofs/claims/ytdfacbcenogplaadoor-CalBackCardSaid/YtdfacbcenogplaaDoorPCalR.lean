/- Contracts of layer 13: a time written and read. -/
import Derived.Test.YtdfacbcenogplaaDoorCa1
import Derived.Test.YtdfacbcenogplaaDoorCa2
import Derived.Test.YtdfacbcenogplaaDoorCa3
namespace Go.Proofs.YtdfacbcenogplaaDoor
open Go.RowKit Go.Lib Go.Joins

def goodB (n : Nat) (k : Nat) : Bool := (wholeZ (padL n k 48) == some (n : Int)) && (padL n k 48).all (fun b => !blkB b) && !(padL n k 48).isEmpty
theorem good_2 : (List.range 60).all (fun n => goodB n 2) = true := by kernel_rfl
theorem good_1 : (List.range 10000).all (fun n => goodB n 1) = true := by kernel_rfl
theorem good_of {n : Int} {k : Nat} (h : (n = n.toNat) ∧ goodB n.toNat k = true) : wholeZ (padL n k 48) = some n ∧ (∀ b ∈ padL n k 48, blkB b = false) ∧ padL n k 48 ≠ [] := by
  obtain ⟨hn, h⟩ := h
  rw [hn]
  unfold goodB at h
  simp only [Bool.and_eq_true, beq_iff_eq, List.all_eq_true, Bool.not_eq_true', List.isEmpty_eq_false_iff] at h
  exact ⟨h.1.1, h.1.2, h.2⟩
theorem take_word (w r : List UInt8) (h : ∀ b ∈ w, blkB b = false) : (w ++ 32 :: r).takeWhile (fun b => !blkB b) = w ∧ (w ++ 32 :: r).dropWhile (fun b => !blkB b) = 32 :: r := by
  induction w with
  | nil => exact ⟨rfl, rfl⟩
  | cons b w ih =>
    have hb := h b (List.mem_cons_self ..)
    obtain ⟨h1, h2⟩ := ih (fun c hc => h c (List.mem_cons_of_mem _ hc))
    rw [List.cons_append, List.takeWhile_cons, List.dropWhile_cons, hb]
    exact ⟨congrArg (b :: ·) h1, h2⟩
theorem take_last (w : List UInt8) (h : ∀ b ∈ w, blkB b = false) : w.takeWhile (fun b => !blkB b) = w ∧ w.dropWhile (fun b => !blkB b) = [] := by
  induction w with
  | nil => exact ⟨rfl, rfl⟩
  | cons b w ih =>
    have hb := h b (List.mem_cons_self ..)
    obtain ⟨h1, h2⟩ := ih (fun c hc => h c (List.mem_cons_of_mem _ hc))
    rw [List.takeWhile_cons, List.dropWhile_cons, hb]
    exact ⟨congrArg (b :: ·) h1, h2⟩
theorem drop_none (w r : List UInt8) (h : ∀ b ∈ w, blkB b = false) (hn : w ≠ []) : (w ++ r).dropWhile blkB = w ++ r := by
  cases w with
  | nil => exact absurd rfl hn
  | cons b w =>
    have hb := h b (List.mem_cons_self ..)
    rw [List.cons_append, List.dropWhile_cons, hb]
    rfl
theorem pstep_first {w r : List UInt8} {v : Int} (h : wholeZ w = some v ∧ (∀ b ∈ w, blkB b = false) ∧ w ≠ []) : pstep (w ++ 32 :: r) = some (v, 32 :: r) := by
  unfold pstep
  rw [drop_none _ _ h.2.1 h.2.2, (take_word w r h.2.1).1, (take_word w r h.2.1).2, h.1]
  rfl
theorem pstep_mid {w r : List UInt8} {v : Int} (h : wholeZ w = some v ∧ (∀ b ∈ w, blkB b = false) ∧ w ≠ []) : pstep (32 :: (w ++ 32 :: r)) = some (v, 32 :: r) := by
  have e : (32 :: (w ++ 32 :: r)).dropWhile blkB = (w ++ 32 :: r).dropWhile blkB := rfl
  unfold pstep
  rw [e, drop_none _ _ h.2.1 h.2.2, (take_word w r h.2.1).1, (take_word w r h.2.1).2, h.1]
  rfl
theorem pstep_end {w : List UInt8} {v : Int} (h : wholeZ w = some v ∧ (∀ b ∈ w, blkB b = false) ∧ w ≠ []) : pstep (32 :: w) = some (v, []) := by
  have e : (32 :: w).dropWhile blkB = (w ++ []).dropWhile blkB := by rw [List.append_nil]; rfl
  unfold pstep
  rw [e, drop_none _ _ h.2.1 h.2.2, List.append_nil, (take_last w h.2.1).1, (take_last w h.2.1).2, h.1]
  rfl
def backF : ByteArray := ⟨#[37, 89, 32, 37, 109, 32, 37, 100, 32, 37, 72, 32, 37, 77, 32, 37, 83]⟩
theorem back_text (x th : DateZ) (t : Int) : txL (partZ x th t) backF.data.toList = padL x.y 1 48 ++ 32 :: (padL x.m 2 48 ++ 32 :: (padL x.d 2 48 ++ 32 :: (padL x.hh 2 48 ++ 32 :: (padL x.mm 2 48 ++ 32 :: padL x.ss 2 48)))) := by
  show padL x.y 1 48 ++ (32 :: (padL x.m 2 48 ++ (32 :: (padL x.d 2 48 ++ (32 :: (padL x.hh 2 48 ++ (32 :: (padL x.mm 2 48 ++ (32 :: (padL x.ss 2 48 ++ [])))))))))) = _
  rw [List.append_nil]
theorem back_parse {x th : DateZ} {t : Int} (h : Mom x th t) : parseZ (txL (partZ x th t) backF.data.toList) = t ∧ (txL (partZ x th t) backF.data.toList).length ≤ 1024 := by
  have hf := h.fair
  obtain ⟨⟨y1, y2⟩, ⟨m1, m2⟩, ⟨d1, d2⟩, ⟨h1, h2⟩, ⟨n1, n2⟩, ⟨s1, s2⟩, ⟨k1, k2⟩, ⟨j1, j2⟩⟩ := id hf
  have g1 : ∀ n : Int, 0 ≤ n → n < 10000 → (n = n.toNat) ∧ goodB n.toNat 1 = true := fun n a b => ⟨by omega, List.all_eq_true.1 good_1 n.toNat (List.mem_range.2 (by omega))⟩
  have g2 : ∀ n : Int, 0 ≤ n → n < 60 → (n = n.toNat) ∧ goodB n.toNat 2 = true := fun n a b => ⟨by omega, List.all_eq_true.1 good_2 n.toNat (List.mem_range.2 (by omega))⟩
  have hY := good_of (g1 x.y (by omega) (by omega))
  have hm := good_of (g2 x.m (by omega) (by omega))
  have hd := good_of (g2 x.d (by omega) (by omega))
  have hH := good_of (g2 x.hh (by omega) (by omega))
  have hM := good_of (g2 x.mm (by omega) (by omega))
  have hS := good_of (g2 x.ss (by omega) (by omega))
  have hb := h.d.back
  have hat : atR x.y x.m x.d x.hh x.mm x.ss = (t, 0) := by
    unfold atR
    rw [if_pos (by unfold inB; omega), hb, if_pos ⟨h.lo, h.hi⟩]
  refine ⟨?_, ?_⟩
  · rw [back_text]
    have hp : parseN 6 [] (padL x.y 1 48 ++ 32 :: (padL x.m 2 48 ++ 32 :: (padL x.d 2 48 ++ 32 :: (padL x.hh 2 48 ++ 32 :: (padL x.mm 2 48 ++ 32 :: padL x.ss 2 48))))) = some ([x.y, x.m, x.d, x.hh, x.mm, x.ss], []) := by
      rw [parseN, pstep_first hY]
      show parseN 5 [x.y] _ = _
      rw [parseN, pstep_mid hm]
      show parseN 4 [x.y, x.m] _ = _
      rw [parseN, pstep_mid hd]
      show parseN 3 [x.y, x.m, x.d] _ = _
      rw [parseN, pstep_mid hH]
      show parseN 2 [x.y, x.m, x.d, x.hh] _ = _
      rw [parseN, pstep_mid hM]
      show parseN 1 [x.y, x.m, x.d, x.hh, x.mm] _ = _
      rw [parseN, pstep_end hS]
      rfl
    unfold parseZ
    rw [hp]
    show (if ([] : List UInt8).dropWhile blkB = [] then (if (atR x.y x.m x.d x.hh x.mm x.ss).2 = 0 then (atR x.y x.m x.d x.hh x.mm x.ss).1 else -1) else -1) = t
    rw [hat]
    rfl
  · rw [back_text]
    have b1 := padL_len x.y 1 48 (by omega) (by omega)
    have b2 := padL_len x.m 2 48 (by omega) (by omega)
    have b3 := padL_len x.d 2 48 (by omega) (by omega)
    have b4 := padL_len x.hh 2 48 (by omega) (by omega)
    have b5 := padL_len x.mm 2 48 (by omega) (by omega)
    have b6 := padL_len x.ss 2 48 (by omega) (by omega)
    simp only [List.length_append, List.length_cons]
    omega
end Go.Proofs.YtdfacbcenogplaaDoor
