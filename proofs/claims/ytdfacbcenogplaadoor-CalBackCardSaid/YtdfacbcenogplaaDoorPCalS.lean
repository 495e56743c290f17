/- Laws of layer 13: CalBack, walked. -/
import Derived.Test.YtdfacbcenogplaaDoorPCalR
import Derived.Test.YtdfacbcenogplaaDoorCa1
import Derived.Test.YtdfacbcenogplaaDoorCa2
import Derived.Test.YtdfacbcenogplaaDoorCa3
namespace Go.Proofs.YtdfacbcenogplaaDoor
open Go.RowKit Go.Lib Go.Joins

theorem back_parts {x th : DateZ} {t : Int} (h : Mom x th t) (d : UInt8) (hd : d ∈ letL backF.data.toList) : (partZ x th t d).length ≤ 1000 ∧ ∀ W, CalMem W → Calls Tryd.prog 60 #[momV x t, .int .u8 (d.toNat : Nat)] W fun e w' => e = .returned (.string ⟨(partZ x th t d).toArray⟩) ∧ Below W.heap.size W w' := by
  have hd : d = 89 ∨ d = 109 ∨ d = 100 ∨ d = 72 ∨ d = 77 ∨ d = 83 := by
    have e : letL backF.data.toList = [89, 109, 100, 72, 77, 83] := by decide
    rw [e] at hd
    simpa using hd
  rcases hd with rfl | rfl | rfl | rfl | rfl | rfl
  · exact part_low h 89 _ _ rfl
  · exact part_low h 109 _ _ rfl
  · exact part_low h 100 _ _ rfl
  · exact part_low h 72 _ _ rfl
  · exact part_low h 77 _ _ rfl
  · exact part_low h 83 _ _ rfl
def secF : ByteArray := ⟨#[37, 115]⟩
theorem sec_parts {x th : DateZ} {t : Int} (h : Mom x th t) (d : UInt8) (hd : d ∈ letL secF.data.toList) : (partZ x th t d).length ≤ 1000 ∧ ∀ W, CalMem W → Calls Tryd.prog 60 #[momV x t, .int .u8 (d.toNat : Nat)] W fun e w' => e = .returned (.string ⟨(partZ x th t d).toArray⟩) ∧ Below W.heap.size W w' := by
  have hd : d = 115 := by
    have e : letL secF.data.toList = [115] := by decide
    rw [e] at hd
    simpa using hd
  subst hd
  exact part_low h 115 _ _ rfl
theorem sec_text {x th : DateZ} {t : Int} : txL (partZ x th t) secF.data.toList = padL t 1 48 := by
  show padL t 1 48 ++ [] = _
  rw [List.append_nil]
theorem itoa_ne (n : Int) : Lib.itoa n ≠ [] := by
  have key : ∀ u, Lib.decDigits u ≠ [] := fun u => by
    rw [Lib.decDigits]
    split
    · simp
    · simp
  unfold Lib.itoa
  split
  · simp
  · exact key _
theorem padL_ne (n : Int) (k : Nat) (f : UInt8) : padL n k f ≠ [] := by
  unfold padL
  intro h
  exact itoa_ne n (List.append_eq_nil_iff.1 h).2
theorem dec_ascii (u : Nat) : ∀ b ∈ Lib.decDigits u, b.toNat < 128 := by
  induction u using Nat.strongRecOn with
  | ind u ih =>
    intro b hb
    rw [Lib.decDigits] at hb
    split at hb
    · rw [List.mem_singleton.1 hb, UInt8.toNat_ofNat']
      omega
    · rcases List.mem_append.1 hb with h | h
      · exact ih (u / 10) (by omega) b h
      · rw [List.mem_singleton.1 h, UInt8.toNat_ofNat']
        omega
theorem padL_ascii (n : Int) (k : Nat) : ∀ b ∈ padL n k 48, b.toNat < 128 := by
  intro b hb
  unfold padL at hb
  rcases List.mem_append.1 hb with h | h
  · rw [(List.mem_replicate.1 h).2]
    decide
  · unfold Lib.itoa at h
    split at h
    · rcases List.mem_cons.1 h with h | h
      · rw [h]
        decide
      · exact dec_ascii _ b h
    · exact dec_ascii _ b h
theorem back_ascii (x th : DateZ) (t : Int) : ∀ b ∈ txL (partZ x th t) backF.data.toList, b.toNat < 128 := by
  rw [back_text]
  intro b hb
  simp only [List.mem_append, List.mem_cons] at hb
  rcases hb with h | rfl | h | rfl | h | rfl | h | rfl | h | rfl | h
  · exact padL_ascii _ _ b h
  · decide
  · exact padL_ascii _ _ b h
  · decide
  · exact padL_ascii _ _ b h
  · decide
  · exact padL_ascii _ _ b h
  · decide
  · exact padL_ascii _ _ b h
  · decide
  · exact padL_ascii _ _ b h
set_option maxRecDepth 100000 in
set_option maxHeartbeats 4000000 in
theorem calBack_any (t : Int) (w : World) (hM : CalMem w) (t0 : -9223372036854775808 ≤ t) (t1 : t ≤ 9223372036854775807) : Calls Tryd.prog 8 #[.int .i64 t] w fun e w' => e = .returned (.bool true) ∧ Below w.heap.size w w' := by
  have CF := Lib.hid (calFixed_any w hM)
  have HM := Lib.hid hM
  by_cases hr : -62135596800 ≤ t ∧ t ≤ 253402300799
  · obtain ⟨lo, hi⟩ := hr
    obtain ⟨x, hx⟩ := date_ex t lo
    obtain ⟨th, hm⟩ := mom_ex hx lo hi
    have hf := hm.fair
    obtain ⟨⟨y1, y2⟩, ⟨m1, m2⟩, ⟨d1, d2⟩, ⟨h1, h2⟩, ⟨n1, n2⟩, ⟨s1, s2⟩, ⟨k1, k2⟩, ⟨j1, j2⟩⟩ := id hf
    obtain ⟨hp, hlen⟩ := back_parse hm
    have hat : atR x.y x.m x.d x.hh x.mm x.ss = (t, 0) := by
      unfold atR
      rw [if_pos (by unfold inB; omega), hx.back, if_pos ⟨lo, hi⟩]
    have CO := fun (W : World) (hW : CalMem W) => of_yes t x W hx lo hi hW.ah
    have CA := fun (W : World) (hW : CalMem W) => at_any x.y x.m x.d x.hh x.mm x.ss x.wk x.yd W hW.ah
    rw [hat] at CA
    have CT := fun (W : World) (hW : CalMem W) => textT_of (partZ x th t) backF x t W hW hx lo hi (by decide) (back_parts hm)
    have CS := fun (W : World) (hW : CalMem W) => textT_of (partZ x th t) secF x t W hW hx lo hi (by decide) (sec_parts hm)
    rw [sec_text] at CS
    have hls := padL_len t 1 48 (by omega) (by omega)
    rw [show textR (padL t 1 48) = (padL t 1 48, 0) from if_pos (by omega)] at CS
    rw [show textR (txL (partZ x th t) backF.data.toList) = (txL (partZ x th t) backF.data.toList, 0) from if_pos hlen] at CT
    have hasc := back_ascii x th t
    obtain ⟨S, hS⟩ : ∃ S : ByteArray, (⟨(txL (partZ x th t) backF.data.toList).toArray⟩ : ByteArray) = S := ⟨_, rfl⟩
    have hSl : S.data.toList = txL (partZ x th t) backF.data.toList := by rw [← hS]
    have hSs : S.size ≤ 1024 := by
      have h1 : S.data.toList.length = S.size := rfl
      rw [hSl] at h1
      omega
    have CP := fun (W : World) (hW : CalMem W) => calParse_any S W hW (by omega) (idxOK_ascii S (by rw [hSl]; exact hasc) (by omega))
    rw [hSl, hp] at CP
    simp only at CT CS
    rw [hS] at CT
    obtain ⟨N, hN⟩ : ∃ N : ByteArray, (⟨(padL t 1 48).toArray⟩ : ByteArray) = N := ⟨_, rfl⟩
    rw [hN] at CS
    have hNe : N.toList.isEmpty = false := by
      rw [Lib.toList_data, ← hN]
      show (padL t 1 48).isEmpty = false
      rw [List.isEmpty_eq_false_iff]
      exact padL_ne t 1 48
    unfold backF at CT
    unfold secF at CS
    unfold dateV at CO CA
    have CO := Lib.hid CO
    have CA := Lib.hid CA
    have CT := Lib.hid CT
    have CS := Lib.hid CS
    have CP := Lib.hid CP
    clear hM hx hm hf hp hlen hat hls hasc hS hSl hSs hN
    go_enter Tryd.func8, Tryd.ntmps8
    go_wp2_with fail
    refine CF.out.mono ?_
    rintro e W2 ⟨rfl, h2⟩
    have HB2 := Lib.hid h2
    have HM2 := Lib.hid (HM.out.below h2 (Nat.le_refl _))
    clear h2
    go_wp2_with fail
    refine (CO.out _ HM2.out).mono ?_
    rintro e W3 ⟨rfl, h3⟩
    have h3a := h3.alloc h3.size (.cells #[.int .i64 x.y, .int .i64 x.m, .int .i64 x.d, .int .i64 x.hh, .int .i64 x.mm, .int .i64 x.ss, .int .i64 x.wk, .int .i64 x.yd] 35)
    have hM3 := HM2.out.below h3a (Nat.le_refl _)
    have hD := date_new W3 x
    obtain ⟨W4, hW4⟩ : ∃ W4, W3.alloc (.cells #[.int .i64 x.y, .int .i64 x.m, .int .i64 x.d, .int .i64 x.hh, .int .i64 x.mm, .int .i64 x.ss, .int .i64 x.wk, .int .i64 x.yd] 35) = W4 := ⟨_, rfl⟩
    rw [hW4] at h3a hM3 hD
    obtain ⟨g, hg⟩ : ∃ g, W3.heap.size = g := ⟨_, rfl⟩
    rw [hg] at hD
    obtain ⟨p0, p1, p2, p3, p4, p5, p6, p7⟩ := date_facts (th := x) hD
    have HD := Lib.hid hD
    have HM4 := Lib.hid hM3
    have HB4 := Lib.hid (first_bel HB2.out h3a)
    clear h3 h3a hM3 hD
    go_wp2_with fail
    refine (CA.out _ HM4.out).mono ?_
    rintro e W5 ⟨rfl, h5⟩
    have HB5 := Lib.hid (first_bel HB4.out h5)
    have HM5 := Lib.hid (HM4.out.below h5 (Nat.le_refl _))
    have HD5 := Lib.hid (zero_still HD.out h5)
    clear h5 p0 p1 p2 p3 p4 p5 p6 p7
    go_wp2_with fail
    refine (CT.out _ HM5.out).mono ?_
    rintro e W6 ⟨rfl, h6⟩
    have HB6 := Lib.hid (first_bel HB5.out h6)
    have HM6 := Lib.hid (HM5.out.below h6 (Nat.le_refl _))
    have HD6 := Lib.hid (zero_still HD5.out h6)
    clear h6
    go_wp2_with fail
    refine (CS.out _ HM6.out).mono ?_
    rintro e W7 ⟨rfl, h7⟩
    have HB7 := Lib.hid (first_bel HB6.out h7)
    have HM7 := Lib.hid (HM6.out.below h7 (Nat.le_refl _))
    have HD7 := Lib.hid (zero_still HD6.out h7)
    clear h7
    go_wp2_with fail
    refine (CP.out _ HM7.out).mono ?_
    rintro e W8 ⟨rfl, h8⟩
    have HB8 := Lib.hid (first_bel HB7.out h8)
    obtain ⟨p0, p1, p2, p3, p4, p5, p6, p7⟩ := date_facts (th := x) (zero_still HD7.out h8)
    clear h8
    go_wp2_with fail
    go_ret
    exact ⟨rfl, HB8.out⟩
  · have CO := fun (W : World) => of_no t W hr
    unfold dateV noDate at CO
    simp only at CO
    have CO := Lib.hid CO
    have hr' : t < -62135596800 ∨ (-62135596800 ≤ t ∧ 253402300799 < t) := by omega
    clear hM hr
    rcases hr' with h1 | ⟨h1, h2⟩
    all_goals
      go_enter Tryd.func8, Tryd.ntmps8
      go_wp2_with fail
      refine CF.out.mono ?_
      rintro e W2 ⟨rfl, h3⟩
      have HB2 := Lib.hid h3
      clear h3
      go_wp2_with fail
      refine (CO.out _).mono ?_
      rintro e W3 ⟨rfl, h3⟩
      have HB3 := Lib.hid (first_bel HB2.out h3)
      clear h3
      go_wp2_with fail
      go_ret
      exact ⟨rfl, HB3.out.alloc HB3.out.size _⟩
end Go.Proofs.YtdfacbcenogplaaDoor
