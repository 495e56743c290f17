/- Several texts in one (Plain: decimal texts of numbers; Contracts of layer 2: isDigits, Parse; Contracts of layer 2: Parse; Contracts of layer 2: the bytes turned round; Text; Contracts of layer 2: guess; Plain: the parts of the long division; Contracts of layer 2: addTo; Contracts of layer 2: divLong; Contracts of layer 2: Div; Contracts of layer 2: Text). -/
import Derived.WalkSpells
import Derived.WalkLawsBesides
import Derived.RegionTactic
import Derived.ChangeAlike
import Derived.Lib.LazyBuf
import Derived.Lib.BufferRead
import Derived.Outline
import Derived.Lib.BitFns
import Derived.Test.YtkjdmjglpbnmoaaGreatDoorPw1
namespace Go.Proofs.YtkjdmjglpbnmoaaGreatDoor

/-- The number that bytes of decimal digits write, the highest first. -/
def pv : List UInt8 → Nat := fun l => l.foldl (fun a c => a * 10 + (c.toNat - 48)) 0
theorem pv_foldl (l : List UInt8) : ∀ a, l.foldl (fun a c => a * 10 + (c.toNat - 48)) a = a * 10 ^ l.length + pv l := by
  induction l with
  | nil => intro a; simp [pv]
  | cons c l ih =>
    intro a
    have h1 := ih (a * 10 + (c.toNat - 48))
    have h2 := ih (0 * 10 + (c.toNat - 48))
    simp only [List.foldl_cons, List.length_cons, pv] at h1 h2 ⊢
    rw [h1, h2, Nat.pow_succ]
    simp only [Nat.add_mul, Nat.mul_assoc, Nat.mul_comm 10]
    omega
theorem pv_append (l m : List UInt8) : pv (l ++ m) = pv l * 10 ^ m.length + pv m := by
  unfold pv
  rw [List.foldl_append, pv_foldl]
  rfl
theorem pv_nil : pv [] = 0 := rfl
theorem pv_one (c : UInt8) : pv [c] = c.toNat - 48 := by simp [pv]
theorem pv_snoc (l : List UInt8) (c : UInt8) : pv (l ++ [c]) = pv l * 10 + (c.toNat - 48) := by rw [pv_append, pv_one]; simp
/-- Decimal digits, every one. -/
def Dec (l : List UInt8) : Prop := ∀ c ∈ l, 48 ≤ c.toNat ∧ c.toNat ≤ 57
theorem dec_append {l m : List UInt8} : Dec (l ++ m) ↔ Dec l ∧ Dec m := by
  unfold Dec
  constructor
  · exact fun h => ⟨fun x hx => h x (List.mem_append_left _ hx), fun x hx => h x (List.mem_append_right _ hx)⟩
  · rintro ⟨h1, h2⟩ x hx
    rcases List.mem_append.1 hx with h | h
    · exact h1 x h
    · exact h2 x h
theorem dec_take {l : List UInt8} (h : Dec l) (k : Nat) : Dec (l.take k) := fun x hx => h x (List.mem_of_mem_take hx)
theorem dec_drop {l : List UInt8} (h : Dec l) (k : Nat) : Dec (l.drop k) := fun x hx => h x (List.mem_of_mem_drop hx)
theorem pv_cons (c : UInt8) (l : List UInt8) : pv (c :: l) = (c.toNat - 48) * 10 ^ l.length + pv l := by
  have := pv_append [c] l
  rwa [pv_one] at this
theorem pv_lt {l : List UInt8} (h : Dec l) : pv l < 10 ^ l.length := by
  induction l with
  | nil => simp [pv]
  | cons c l ih =>
    have h3 := ih (fun x hx => h x (List.mem_cons_of_mem _ hx))
    have h4 := h c List.mem_cons_self
    rw [pv_cons, List.length_cons, Nat.pow_succ]
    have : (c.toNat - 48) * 10 ^ l.length ≤ 9 * 10 ^ l.length := Nat.mul_le_mul_right _ (by omega)
    omega

/-- A digit as a byte. -/
def db (d : Nat) : UInt8 := UInt8.ofNat (48 + d)
theorem db_toNat {d : Nat} (h : d < 10) : (db d).toNat = 48 + d := by
  unfold db
  rw [UInt8.toNat_ofNat']
  omega
/-- A number's decimal text. -/
def decs (n : Nat) : List UInt8 := if n = 0 then [48] else (dig 10 n).reverse.map db
theorem decs_zero : decs 0 = [48] := rfl
/-- The text of digits, the lowest first, with noughts at the top. -/
theorem decs_of {l : List Nat} {m : Nat} (hl : Lim 10 l) (hn : vl 10 l ≠ 0) (hm : m ≤ l.length) (h0 : ∀ j (_ : m ≤ j) (hj : j < l.length), l[j] = 0) (ht : m = 0 ∨ ∃ h : m - 1 < l.length, l[m - 1] ≠ 0) :
    decs (vl 10 l) = (l.reverse.drop (l.length - m)).map db := by
  have h := (trim_take (B := 10) (by decide) hl hm h0 ht).1
  rw [decs, if_neg hn, h, List.drop_reverse, show l.length - (l.length - m) = m by omega]
/-- Every text of digits is the decimal text of its number, noughts ahead taken away. -/
theorem decs_pv {l : List Nat} (hl : Lim 10 l) (hn : vl 10 l ≠ 0) : decs (vl 10 l) = (l.reverse.dropWhile (· == 0)).map db := by
  have hn2 : dig 10 (vl 10 l) = (l.reverse.dropWhile (· == 0)).reverse := by
    have hsplit : l = (l.reverse.dropWhile (· == 0)).reverse ++ (l.reverse.takeWhile (· == 0)).reverse := by
      rw [← List.reverse_append, List.takeWhile_append_dropWhile, List.reverse_reverse]
    have hz : vl 10 (l.reverse.takeWhile (· == 0)).reverse = 0 := by
      have : (l.reverse.takeWhile (· == 0)).reverse = List.replicate (l.reverse.takeWhile (· == 0)).reverse.length 0 := by
        rw [List.eq_replicate_iff]
        refine ⟨rfl, fun b hb => ?_⟩
        have := List.all_eq_true.1 (List.all_takeWhile (p := fun x : Nat => x == 0) (l := l.reverse)) b (List.mem_reverse.1 hb)
        simpa using this
      rw [this, vl_zeros]
    have hv : vl 10 (l.reverse.dropWhile (· == 0)).reverse = vl 10 l := by
      conv => rhs; rw [hsplit, vl_append, hz]
      simp
    refine dig_eq (by decide) ⟨?_, ?_⟩ hv
    · intro x hx
      refine hl x ?_
      rw [hsplit]
      exact List.mem_append_left _ hx
    · intro e
      rw [List.getLast?_reverse] at e
      have := List.head?_dropWhile_not (fun x : Nat => x == 0) l.reverse
      rw [e] at this
      simp at this
  rw [decs, if_neg hn, hn2, List.reverse_reverse]
theorem db_zero {d : Nat} (h : d < 10) : db d = 48 ↔ d = 0 := by
  constructor
  · intro e
    have := congrArg UInt8.toNat e
    rw [db_toNat h] at this
    simpa using this
  · rintro rfl; rfl
theorem dropWhile_db : ∀ {l : List Nat}, Lim 10 l → (l.map db).dropWhile (· == 48) = (l.dropWhile (· == 0)).map db
  | [], _ => rfl
  | x :: l, h => by
    obtain ⟨h1, h2⟩ := lim_cons.1 h
    rw [List.map_cons, List.dropWhile_cons, List.dropWhile_cons]
    by_cases hx : x = 0
    · subst hx
      simp only [BEq.rfl, if_true, show (db 0 == 48) = true by rfl]
      exact dropWhile_db h2
    · have e1 : (db x == 48) = false := by
        rw [beq_eq_false_iff_ne]; exact fun e => hx ((db_zero h1).1 e)
      have e2 : (x == 0) = false := by simpa using hx
      rw [e1, e2]
      rfl
/-- Digits, the lowest first, of a piece of the text. -/
theorem vl_digits {l : List UInt8} : vl 10 (l.map fun c => c.toNat - 48).reverse = pv l := by
  induction l with
  | nil => rfl
  | cons c l ih =>
    rw [List.map_cons, List.reverse_cons, vl_snoc, ih, pv_cons, List.length_reverse, List.length_map, Nat.mul_comm]
    omega
end Go.Proofs.YtkjdmjglpbnmoaaGreatDoor

namespace Go.Proofs.YtkjdmjglpbnmoaaGreatDoor
open Go.RowKit Go.Lib

theorem ba_len (s : ByteArray) : s.data.toList.length = s.size := Array.length_toList
theorem ba_take_snoc (s : ByteArray) (k : Nat) (h : k < s.size) : s.data.toList.take (k + 1) = s.data.toList.take k ++ [s[k]] := by
  rw [List.take_succ_eq_append_getElem (by rw [ba_len]; exact h)]; rfl
theorem ba_nil {s : ByteArray} (h : s.size = 0) : s.data.toList = [] := List.eq_nil_of_length_eq_zero (by rw [ba_len]; exact h)
theorem dec_snoc {l : List UInt8} {c : UInt8} (h : Dec l) (hc : 48 ≤ c.toNat ∧ c.toNat ≤ 57) : Dec (l ++ [c]) := dec_append.2 ⟨h, fun x hx => by rw [List.mem_singleton] at hx; rw [hx]; exact hc⟩
theorem dec_at {s : ByteArray} (h : Dec s.data.toList) (k : Nat) (hk : k < s.size) : 48 ≤ s[k].toNat ∧ s[k].toNat ≤ 57 := h _ (by
  have : s[k] = s.data.toList[k]'(by rw [ba_len]; exact hk) := rfl
  rw [this]
  exact List.getElem_mem _)

/-- Is it one decimal digit or more? -/
noncomputable def isDec (s : ByteArray) : Bool := @decide (0 < s.size ∧ Dec s.data.toList) (Classical.propDecidable _)
theorem isDec_iff {s : ByteArray} : isDec s = true ↔ 0 < s.size ∧ Dec s.data.toList := by
  unfold isDec
  exact @decide_eq_true_iff _ (Classical.propDecidable _)
theorem isDec_no {s : ByteArray} : isDec s = false ↔ ¬ (0 < s.size ∧ Dec s.data.toList) := by
  unfold isDec
  exact @decide_eq_false_iff_not _ (Classical.propDecidable _)

set_option maxRecDepth 100000 in
set_option maxHeartbeats 1000000 in
theorem isDigits_any (s : ByteArray) (w : World) (hs : s.size ≤ 4194304) :
    Calls Tryz.prog 37 #[.string s] w fun e w' => e = .returned (.bool (isDec s)) ∧ w = w' := by
  go_enter Tryz.func37, Tryz.ntmps37
  go_wp2
  go_loop [6] (fun i => ∃ k : Nat, k ≤ s.size ∧ i = .int .i64 k ∧ Dec (s.data.toList.take k)) (fun i => s.size - (RowKit.intOf i).toNat)
  case atStart => exact ⟨0, Nat.zero_le _, rfl, fun _ h => by simp at h⟩
  case round =>
    obtain ⟨k, hk, rfl, hd⟩ := hrel
    by_cases hlt : k < s.size
    · by_cases h1 : s[k].toNat < 48
      · have HR := Lib.hid (show isDec s = false from isDec_no.2 (fun h => by have := (dec_at h.2 k hlt).1; omega))
        clear hd
        go_wp2
        go_ret
        exact ⟨by rw [HR.out]; rfl, rfl⟩
      · by_cases h2 : 57 < s[k].toNat
        · have HR := Lib.hid (show isDec s = false from isDec_no.2 (fun h => by have := (dec_at h.2 k hlt).2; omega))
          clear hd
          go_wp2
          go_ret
          exact ⟨by rw [HR.out]; rfl, rfl⟩
        · have hd2 := dec_snoc hd (show 48 ≤ s[k].toNat ∧ s[k].toNat ≤ 57 by omega)
          rw [← ba_take_snoc s k hlt] at hd2
          have HD := Lib.hid hd2
          clear hd hd2
          go_wp2
          go_round
          case rel => exact ⟨k + 1, hlt, by go_num, HD.out⟩
          case measure => simp [RowKit.intOf]; omega
    · obtain rfl : k = s.size := by omega
      rw [← ba_len, List.take_length] at hd
      by_cases h0 : s.size = 0
      · have HR := Lib.hid (show isDec s = false from isDec_no.2 (fun h => by omega))
        have he : s.toList = [] := by rw [Lib.toList_data]; exact ba_nil h0
        have he2 : s.toList.isEmpty = true := by rw [he]; rfl
        clear hd h0
        go_wp2
        go_ret
        exact ⟨by rw [HR.out]; rfl, rfl⟩
      · have HR := Lib.hid (show isDec s = true from isDec_iff.2 ⟨by omega, hd⟩)
        have he2 : s.toList.isEmpty = false := by
          rw [Lib.toList_data]
          cases h : s.data.toList with
          | nil => exact absurd (by rw [← ba_len, h]; rfl) h0
          | cons _ _ => rfl
        have he3 : ¬ s.toList = [] := by
          intro e; rw [e] at he2; cases he2
        clear hd h0
        go_wp2
        go_ret
        exact ⟨by rw [HR.out]; rfl, rfl⟩
end Go.Proofs.YtkjdmjglpbnmoaaGreatDoor

namespace Go.Proofs.YtkjdmjglpbnmoaaGreatDoor
open Go.RowKit Go.Lib

/-- What Parse answers. -/
noncomputable def parseRes (s : ByteArray) : List Nat × Int := if isDec s = true then natRes (pv s.data.toList) else ([], 30)
theorem pow10_le {i : Nat} (h : i ≤ 8) : 10 ^ i ≤ 100000000 := (Nat.pow_le_pow_right (by omega) h : 10 ^ i ≤ 10 ^ 8)
theorem pow10_le9 {i : Nat} (h : i ≤ 9) : 10 ^ i ≤ 1000000000 := (Nat.pow_le_pow_right (by omega) h : 10 ^ i ≤ 10 ^ 9)
theorem natRes_long {n : Nat} (h : ¬ (dig B32 n).length ≤ 256) : natRes n = ([], 3) := by rw [natRes, if_neg h]
theorem natRes_ok {n : Nat} (h : (dig B32 n).length ≤ 256) : natRes n = (dig B32 n, 0) := by rw [natRes, if_pos h]
theorem dig_grows {n m : Nat} (h : n ≤ m) (hn : ¬ (dig B32 n).length ≤ 256) : ¬ (dig B32 m).length ≤ 256 := by
  rw [dig_len_le (by decide)] at hn ⊢
  omega
theorem pv_take_le {l : List UInt8} (k : Nat) : pv (l.take k) ≤ pv l := by
  have h := pv_append (l.take k) (l.drop k)
  rw [List.take_append_drop] at h
  have : pv (l.take k) * 1 ≤ pv (l.take k) * 10 ^ (l.drop k).length := Nat.mul_le_mul_left _ (Nat.pow_pos (by omega))
  omega

set_option maxRecDepth 100000 in
set_option maxHeartbeats 2000000 in
theorem parse_any (s : ByteArray) (w : World) (hs : s.size ≤ 4194304) :
    Calls Tryz.prog 16 #[.string s] w (RowErr w.heap.size w (parseRes s)) := by
  have cD := isDigits_any s w hs
  by_cases hd : isDec s = true
  case neg =>
    have hf : isDec s = false := by simpa using hd
    have HR := Lib.hid (show parseRes s = ([], 30) by rw [parseRes, if_neg hd])
    rw [hf] at cD
    have CD := Lib.hid cD
    clear cD hd hf
    go_enter Tryz.func16, Tryz.ntmps16
    go_wp2_with fail
    refine CD.out.mono ?_
    rintro e w' ⟨rfl, rfl⟩
    go_wp2
    go_ret2
    exact ⟨_, by rw [HR.out]; rfl, by rw [HR.out]; exact Own.nil _ _ _, Below.refl _ _⟩
  have HR := Lib.hid (show parseRes s = natRes (pv s.data.toList) by rw [parseRes, if_pos hd])
  have hdec := (isDec_iff.1 hd).2
  rw [hd] at cD
  have CD := Lib.hid cD
  clear cD hd
  go_enter Tryz.func16, Tryz.ntmps16
  go_wp2_with fail
  refine CD.out.mono ?_
  rintro e w' ⟨rfl, rfl⟩
  clear CD
  go_wp2
  go_loopw [4, 5] (fun v q wr => ∃ (r : ByteArray) (k : Nat), k ≤ s.size ∧ q = .string r ∧ r.data.toList = s.data.toList.drop k ∧ Own .u32 wr w.heap.size 74 v (dig B32 (pv (s.data.toList.take k))) ∧ (dig B32 (pv (s.data.toList.take k))).length ≤ 256 ∧ Below w.heap.size w wr) (fun _ q _ => match q with | .string r => r.size | _ => 0)
  case atStart => exact ⟨s, 0, Nat.zero_le _, rfl, rfl, Own.nil _ _ _, Nat.zero_le _, Below.refl _ _⟩
  case round =>
    obtain ⟨r, k, hk, rfl, hr, hO, hlen, hB⟩ := hrel
    have hrl : r.size = s.size - k := by rw [← ba_len, hr, List.length_drop, ba_len]
    have HRD := Lib.hid hr
    by_cases hr0 : r.size = 0
    · have he : r.toList = [] := by rw [Lib.toList_data]; exact ba_nil hr0
      have he2 : r.toList.isEmpty = true := by rw [he]; rfl
      have hke : s.data.toList.take k = s.data.toList := by rw [List.take_of_length_le]; rw [ba_len]; omega
      rw [hke] at hO hlen
      have HN := Lib.hid (natRes_ok hlen)
      have HO := Lib.hid hO
      obtain ⟨A, cap, rfl, _⟩ := hO.slice
      clear hO hlen hke hr hr0 hrl
      go_wp2
      go_ret2
      exact ⟨_, by rw [HR.out, HN.out]; rfl, by rw [HR.out, HN.out]; exact HO.out, hB⟩
    · have he2 : r.toList.isEmpty = false := by
        rw [Lib.toList_data]
        cases h : r.data.toList with
        | nil => exact absurd (by rw [← ba_len, h]; rfl) hr0
        | cons _ _ => rfl
      have he3 : ¬ r.toList = [] := by
        intro e; rw [e] at he2; cases he2
      obtain ⟨m, hm⟩ : ∃ m, min 9 r.size = m := ⟨_, rfl⟩
      have hm1 : m ≤ 9 := by omega
      have hm2 : m ≤ r.size := by omega
      have hm0 : 0 < m := by omega
      have hmi : min (9 : Int) (r.size : Int) = (m : Int) := by omega
      have hmi2 : (if (9 : Int) ≤ (r.size : Int) then (9 : Int) else (r.size : Int)) = (m : Int) := by split <;> omega
      obtain ⟨p, hp⟩ : ∃ p, r.extract 0 m = p := ⟨_, rfl⟩
      have hps : p.size = m := by rw [← hp, ByteArray.size_extract]; omega
      have hpd : p.data.toList = (s.data.toList.drop k).take m := by rw [← hp, Lib.extract_data, List.drop_zero, hr, Nat.sub_zero]
      have HM := Lib.hid hm
      have HPD := Lib.hid hpd
      have HPS := Lib.hid hps
      have HRL := Lib.hid hrl
      have hkr : k + r.size = s.size := by omega
      have HKR := Lib.hid hkr
      clear hm hpd hr hrl hkr
      go_wp2
      have hpdec : Dec p.data.toList := by rw [HPD.out]; exact dec_take (dec_drop hdec _) _
      have HPDEC := Lib.hid hpdec
      clear hpdec
      obtain ⟨wo, rfl⟩ : ∃ wo : World, wo = wr := ⟨wr, rfl⟩
      go_loop [7, 8, 23] (fun a b i => ∃ i0 : Nat, i0 ≤ m ∧ i = .int .i64 i0 ∧ a = .int .u32 (10 ^ i0 : Nat) ∧ b = .int .u32 (pv (p.data.toList.take i0))) (fun _ _ i => m - (RowKit.intOf i).toNat)
      case atStart => exact ⟨0, Nat.zero_le _, rfl, rfl, rfl⟩
      case round =>
        obtain ⟨i, hi, rfl, rfl, rfl⟩ := hrel
        by_cases hlt : i < m
        · have hps := HPS.out
          have hc := dec_at HPDEC.out i (by omega)
          have hsn := ba_take_snoc p i (by omega)
          have hpv : pv (p.data.toList.take (i + 1)) = pv (p.data.toList.take i) * 10 + (p[i].toNat - 48) := by rw [hsn, pv_snoc]
          have hvl := pv_lt (dec_take HPDEC.out i)
          rw [List.length_take, Nat.min_eq_left (by rw [ba_len]; omega)] at hvl
          have hP8 := pow10_le (i := i) (by omega)
          have hPs : 10 ^ (i + 1) = 10 ^ i * 10 := Nat.pow_succ ..
          have hip : i < p.size := by omega
          obtain ⟨P, hP⟩ : ∃ P, 10 ^ i = P := ⟨_, rfl⟩
          obtain ⟨V, hV⟩ : ∃ V, pv (p.data.toList.take i) = V := ⟨_, rfl⟩
          rw [hP] at hvl hP8 hPs
          rw [hV] at hvl hpv
          rw [hP, hV]
          have HPV := Lib.hid hpv
          have HPS2 := Lib.hid hPs
          obtain ⟨c1, c2⟩ := hc
          clear hps hsn hpv hPs hP hV
          go_wp2
          go_round
          case rel => exact ⟨i + 1, hlt, by go_num, by rw [HPS2.out]; go_num, by rw [HPV.out]; exact vint (by omega)⟩
          case measure => simp [RowKit.intOf]; omega
        · obtain rfl : i = m := by omega
          have hpe : pv (p.data.toList.take i) = pv p.data.toList := by rw [List.take_of_length_le]; rw [ba_len, HPS.out]; exact Nat.le_refl _
          have hvl := pv_lt HPDEC.out
          rw [ba_len, HPS.out] at hvl
          have hP9 := pow10_le9 (i := i) hm1
          have hP0 : 0 < 10 ^ i := Nat.pow_pos (by omega)
          have hcat : pv (s.data.toList.take (k + i)) = pv (s.data.toList.take k) * 10 ^ i + pv p.data.toList := by
            rw [List.take_add, ← HPD.out, pv_append, ba_len, HPS.out]
          obtain ⟨A, cap, rfl, hcap⟩ := hO.slice
          have cM := mulAdd_any A cap (10 ^ i) (pv p.data.toList) w.heap.size (dig B32 (pv (s.data.toList.take k))) wo (dig_norm (by decide) _) (by omega) hP0 (by omega) (by omega) hB.size hO
          rw [dig_vl (by decide), ← hcat] at cM
          rw [hpe]
          obtain ⟨P, hP⟩ : ∃ P, 10 ^ i = P := ⟨_, rfl⟩
          obtain ⟨V, hV⟩ : ∃ V, pv p.data.toList = V := ⟨_, rfl⟩
          rw [hP, hV] at cM
          rw [hP, hV]
          have CM := Lib.hid cM
          have hle := pv_take_le (l := s.data.toList) (k + i)
          have HLE := Lib.hid hle
          have hri : i ≤ r.size := hm2
          have hrd2 : (r.extract i r.size).data.toList = s.data.toList.drop (k + i) := by
            rw [Lib.extract_data, HRD.out, List.drop_drop, List.take_of_length_le]
            rw [List.length_drop, ba_len]; have := HKR.out; omega
          have HRD2 := Lib.hid hrd2
          clear cM hpe hvl hP9 hP0 hcat hP hV hle hrd2 hO
          go_wp2_with fail
          refine CM.out.mono ?_
          rintro e w2 ⟨v2, rfl, hO2, hB2⟩
          obtain ⟨A2, cap2, rfl, hcap2⟩ := hO2.slice
          have hBz := hB.trans hB2
          obtain ⟨nl, hnl⟩ : ∃ nl, (dig B32 (pv (s.data.toList.take (k + i)))).length = nl := ⟨_, rfl⟩
          rw [hnl] at hO2 hcap2
          rw [hnl]
          have HO2 := Lib.hid hO2
          have HNL := Lib.hid hnl
          clear hO2 hB2 CM hB hnl
          by_cases hbig : 256 < nl
          · have HBIG := Lib.hid (natRes_long (dig_grows HLE.out (by rw [HNL.out]; omega)))
            go_wp2
            go_ret2
            exact ⟨_, by rw [HR.out, HBIG.out]; rfl, by rw [HR.out, HBIG.out]; exact Own.nil _ _ _, hBz⟩
          · go_wp2
            go_roundw
            case rel => exact ⟨r.extract i r.size, k + i, by have := HKR.out; omega, rfl, HRD2.out, by have h := HO2.out; rw [← HNL.out] at h; rw [← HNL.out]; exact h, by rw [HNL.out]; omega, hBz⟩
            case measure =>
              show (r.extract i r.size).size < r.size
              rw [ByteArray.size_extract]; omega
end Go.Proofs.YtkjdmjglpbnmoaaGreatDoor

namespace Go.Proofs.YtkjdmjglpbnmoaaGreatDoor
open Go.RowKit Go.Lib

theorem info_u8 : (Tryz.prog.info? 5).map (fun i => (i.zero, i.size, i.bytes)) = some (some (.int .u8 0), 1, 1) := by kernel_rfl
/-- Turned round at both ends, k of each. -/
def Turned (xs cur : List Nat) (k : Nat) : Prop := cur.length = xs.length ∧ ∀ j (h : j < xs.length) (h2 : j < cur.length), cur[j] = if j < k ∨ xs.length - k ≤ j then xs[xs.length - 1 - j]'(by omega) else xs[j]
theorem turned_start (xs : List Nat) : Turned xs xs 0 := ⟨rfl, fun j h _ => by rw [if_neg (by omega)]⟩
theorem turned_step {xs cur : List Nat} {k : Nat} (h : Turned xs cur k) (hk : 2 * k + 1 < xs.length) :
    Turned xs ((cur.set k (xs[xs.length - 1 - k]'(by omega))).set (xs.length - 1 - k) (xs[k]'(by omega))) (k + 1) := by
  obtain ⟨h1, h2⟩ := h
  refine ⟨by rw [List.length_set, List.length_set, h1], fun j hj hj2 => ?_⟩
  rw [List.getElem_set, List.getElem_set]
  by_cases e1 : xs.length - 1 - k = j
  · rw [if_pos e1, if_pos (by omega)]
    congr 1
    omega
  · rw [if_neg e1]
    by_cases e2 : k = j
    · rw [if_pos e2, if_pos (by omega)]
      congr 1
      omega
    · rw [if_neg e2, h2 j hj (by omega)]
      by_cases e3 : j < k ∨ xs.length - k ≤ j
      · rw [if_pos e3, if_pos (by omega)]
      · rw [if_neg e3, if_neg (by omega)]
theorem turned_get {xs cur : List Nat} {k : Nat} (h : Turned xs cur k) (hk : 2 * k + 1 < xs.length) : cur[k]'(by have := h.1; omega) = xs[k]'(by omega) ∧ cur[xs.length - 1 - k]'(by have := h.1; omega) = xs[xs.length - 1 - k]'(by omega) := by
  constructor
  · rw [h.2 k (by omega) (by have := h.1; omega), if_neg (by omega)]
  · rw [h.2 (xs.length - 1 - k) (by omega) (by have := h.1; omega), if_neg (by omega)]
theorem turned_end {xs cur : List Nat} {k : Nat} (h : Turned xs cur k) (hk : xs.length ≤ 2 * k + 1) : cur = xs.reverse := by
  apply List.ext_getElem
  · rw [h.1, List.length_reverse]
  · intro j h1 h2
    have hl := h.1
    rw [List.getElem_reverse, h.2 j (by omega) h1]
    by_cases e : j < k ∨ xs.length - k ≤ j
    · rw [if_pos e]
    · rw [if_neg e]
      congr 1
      omega

set_option maxRecDepth 100000 in
set_option maxHeartbeats 2000000 in
theorem reverse_any (g n cap B : Nat) (xs : List Nat) (w : World) (hn : n = xs.length) (hxn : xs.length ≤ 1000000) (hO : Own .u8 w B 5 (.slice (some ⟨g, 0, none⟩) n cap) xs) (hg : B ≤ g) :
    Calls Tryz.prog 77 #[.slice (some ⟨g, 0, none⟩) n cap] w fun e w' => e = .returned (.tuple #[]) ∧ Own .u8 w' B 5 (.slice (some ⟨g, 0, none⟩) n cap) xs.reverse ∧ Below B w w' := by
  have HN := Lib.hid hn
  have hxn2 : n ≤ 1000000 := by omega
  clear hn
  go_enter Tryz.func77, Tryz.ntmps77
  go_wp2
  go_loopw [2, 3] (fun i j wr => ∃ (k : Nat) (cur : List Nat), k ≤ n ∧ i = .int .i64 k ∧ j = .int .i64 ((n : Int) - 1 - (k : Int)) ∧ Turned xs cur k ∧ Own .u8 wr B 5 (.slice (some ⟨g, 0, none⟩) n cap) cur ∧ Below B w wr) (fun i _ _ => n - (RowKit.intOf i).toNat)
  case atStart => exact ⟨0, xs, Nat.zero_le _, rfl, vint (by omega), turned_start xs, hO, Below.refl _ _⟩
  case round =>
    obtain ⟨k, cur, hk, rfl, rfl, hT, hOw, hB⟩ := hrel
    by_cases hlt : 2 * k + 1 < n
    · have hT2 : 2 * k + 1 < xs.length := by rw [← HN.out]; exact hlt
      have hcl : cur.length = n := by rw [hT.1, HN.out]
      obtain ⟨q, hq⟩ : ∃ q : Nat, n - 1 - k = q := ⟨_, rfl⟩
      have hqi : (n : Int) - 1 - (k : Int) = (q : Int) := by omega
      have hkq : k < q := by omega
      have hqn : q < n := by omega
      obtain ⟨t1, t2⟩ := turned_get hT hT2
      have hst := turned_step hT hT2
      have hxq : xs.length - 1 - k = q := by rw [← HN.out]; exact hq
      have c1 := hOw.cell k (by omega)
      have c2 := hOw.cell q (by omega)
      simp only [hxq] at t2 hst
      rw [t1] at c1
      rw [t2] at c2
      obtain ⟨a, ha⟩ : ∃ a, xs[k]'(by omega) = a := ⟨_, rfl⟩
      obtain ⟨b, hb⟩ : ∃ b, xs[q]'(by have := HN.out; omega) = b := ⟨_, rfl⟩
      rw [ha] at c1 hst
      rw [hb] at c2 hst
      have f1 : wr.frozen? ⟨g, k, none⟩ = false := World.ownsRow.frozenAt (hOw.row hcl) k
      have f2 : wr.frozen? ⟨g, q, none⟩ = false := World.ownsRow.frozenAt (hOw.row hcl) q
      have o1 := (hOw.set hcl.symm k b).set (by rw [List.length_set]; exact hcl.symm) q a
      have hBz : Below B w ((wr.setCell ⟨g, k, none⟩ (.int .u8 (b : Nat))).setCell ⟨g, q, none⟩ (.int .u8 (a : Nat))) := (hB.setCell hg _).setCell hg _
      have HST := Lib.hid hst
      have HQ := Lib.hid (show k + q + 1 = n by omega)
      have HO1 := Lib.hid o1
      have h1 : (k : Int) < (q : Int) := by omega
      have h2 : (q : Int) < (n : Int) := by omega
      have h3 : (k : Int) < (n : Int) := by omega
      rw [hqi]
      clear hqi hq hcl t1 t2 hst hxq ha hb o1 hT2 hOw hB hT
      go_wp2
      go_region
      all_goals
        go_wp2
        go_roundw
        case rel => exact ⟨k + 1, _, by omega, by go_num, vint (by have := HQ.out; omega), HST.out, HO1.out, hBz.drew⟩
        case measure => simp [RowKit.intOf]; omega
    · have HE := Lib.hid (turned_end hT (by rw [← HN.out]; omega))
      have hge : ¬ (k : Int) < (n : Int) - 1 - (k : Int) := by omega
      rw [HE.out] at hOw
      have HO := Lib.hid hOw
      clear hOw hT
      go_wp2
      go_end0
      exact ⟨rfl, HO.out, hB⟩
end Go.Proofs.YtkjdmjglpbnmoaaGreatDoor

namespace Go.Proofs.YtkjdmjglpbnmoaaGreatDoor
open Go.RowKit Go.Lib

/-- What guess answers: the quotient, or one more. -/
def Guessed (q : Nat) (e : Ending) : Prop := ∃ t : Nat, e = .returned (.int .u32 t) ∧ q ≤ t ∧ t ≤ q + 1 ∧ t < 4294967296

/-- A product of two limbs by a name. -/
theorem prod_name {x y : Nat} (hx : x < 4294967296) (hy : y < 4294967296) : ∃ p : Nat, x * y = p ∧ (x : Int) * (y : Int) = (p : Int) ∧ (p : Int) ≤ 18446744073709551615 := by
  have h : x * y ≤ 4294967295 * 4294967295 := Nat.mul_le_mul (by omega) (by omega)
  exact ⟨x * y, rfl, (Int.natCast_mul _ _).symm, by omega⟩

set_option maxRecDepth 100000 in
set_option maxHeartbeats 2000000 in
theorem guess_any (gp op cp gb ob cb n P Dl v1 v0 Nl u2 u1 u0 : Nat) (w : World) (hn : 2 ≤ n) (hn2 : n ≤ 100000) (hG : GuessOk B32 P Dl v1 v0 Nl u2 u1 u0) (hu1 : u1 < 4294967296) (hu2 : u2 < 4294967296)
    (c1 : w.cell? ⟨gb, ob + (n - 1), none⟩ = some (.int .u32 v1)) (c2 : w.cell? ⟨gb, ob + (n - 2), none⟩ = some (.int .u32 v0))
    (c3 : w.cell? ⟨gp, op + n, none⟩ = some (.int .u32 u2)) (c4 : w.cell? ⟨gp, op + (n - 1), none⟩ = some (.int .u32 u1)) (c5 : w.cell? ⟨gp, op + (n - 2), none⟩ = some (.int .u32 u0)) :
    Calls Tryz.prog 87 #[.slice (some ⟨gp, op, none⟩) (n + 1) cp, .slice (some ⟨gb, ob, none⟩) n cb] w fun e w' => Guessed ((Nl + P * (u0 + B32 * (u1 + B32 * u2))) / (Dl + P * (v0 + B32 * v1))) e ∧ ∃ n, w' = w.drewN n := by
  have hv0 : v0 < 4294967296 := hG.hv0
  have hv1 : v1 < 4294967296 := hG.hv1
  have hu0 : u0 < 4294967296 := hG.hu0
  have htop : 4294967296 ≤ 2 * v1 := hG.htop
  have st := guess_start hG
  obtain ⟨q, hq⟩ : ∃ q, (Nl + P * (u0 + B32 * (u1 + B32 * u2))) / (Dl + P * (v0 + B32 * v1)) = q := ⟨_, rfl⟩
  rw [hq] at st ⊢
  obtain ⟨W, hW⟩ : ∃ W, u1 + B32 * u2 = W := ⟨_, rfl⟩
  rw [hW] at st
  have hWi : (u2 : Int) * 4294967296 + (u1 : Int) = (W : Int) := by rw [← hW]; show (u2 : Int) * 4294967296 + (u1 : Int) = ((u1 + 4294967296 * u2 : Nat) : Int); omega
  have hW2 : (W : Int) ≤ 18446744073709551615 := by omega
  have HQ := Lib.hid hq; clear hq
  have HW := Lib.hid hW; clear hW
  have hdm := Nat.div_add_mod W v1
  obtain ⟨t0, ht0⟩ : ∃ t0, W / v1 = t0 := ⟨_, rfl⟩
  obtain ⟨l0, hl0⟩ : ∃ l0, W % v1 = l0 := ⟨_, rfl⟩
  have hl0b : l0 < 4294967296 := by rw [← hl0]; have := Nat.mod_lt W (show 0 < v1 by omega); omega
  rw [ht0] at st hdm
  rw [hl0] at hdm
  rw [Nat.mul_comm] at hdm
  have ht0i : (W : Int) / (v1 : Int) = (t0 : Int) := by rw [← ht0]; exact (Int.natCast_ediv _ _).symm
  have hl0i : (W : Int) % (v1 : Int) = (l0 : Int) := by rw [← hl0]; exact (Int.natCast_emod _ _).symm
  have hor : bits .or .u64 ((u2 : Int) * 4294967296) (u1 : Int) = (W : Int) := by rw [or_add hu2 hu1, hWi]
  have s1 : IntKind.u64.wrap ((u2 : Int) * 4294967296) = (u2 : Int) * 4294967296 := IntWalk.u64_in _ (by omega)
  have s2 : IntKind.i64.wrap ((n : Int) - 1) = (n : Int) - 1 := IntWalk.i64_in _ (by omega)
  have s3 : IntKind.i64.wrap ((n : Int) - 2) = (n : Int) - 2 := IntWalk.i64_in _ (by omega)
  have s4 : ((n : Int) - 1).toNat = n - 1 := by omega
  have s5 : ((n : Int) - 2).toNat = n - 2 := by omega
  have s6 : (1 : Int) ≤ (n : Int) := by omega
  have s7 : (2 : Int) ≤ (n : Int) := by omega
  have s8 : (n : Int) - 1 < (n : Int) := by omega
  have s9 : (n : Int) - 2 < (n : Int) := by omega
  have s10 : (n : Int) < (n : Int) + 1 := by omega
  have s11 : (n : Int) - 1 < (n : Int) + 1 := by omega
  have hw0 : t0 * v1 + l0 = u1 + B32 * u2 := by rw [HW.out]; exact hdm
  have htb : t0 < 4294967298 := guess_max hG hw0
  have s12 : IntKind.u64.wrap (t0 : Int) = (t0 : Int) := IntWalk.u64_in _ (by omega)
  have HDM := Lib.hid hw0
  have HG := Lib.hid hG
  have HLI := Lib.hid hl0i
  clear hw0 hG hl0i
  have HWI := Lib.hid hWi
  have HT0 := Lib.hid ht0
  have HL0 := Lib.hid hl0
  clear hdm hWi ht0 hl0
  go_enter Tryz.func87, Tryz.ntmps87
  go_wp2
  go_quiet (fail)
  go_wp2
  go_quiet (fail)
  go_wp2
  go_quiet (fail)
  go_wp2
  clear s1 s2 s4 s6 s8 s10 s11 s12 hor ht0i c1 c2 c3 c4
  go_loopw [9, 10] (fun c d wr => ∃ t l k : Nat, c = .int .u64 t ∧ d = .int .u64 l ∧ t * v1 + l = u1 + B32 * u2 ∧ q ≤ t ∧ t < 4294967298 ∧ l < 4294967296 ∧ wr = w.drewN k) (fun c _ _ => (RowKit.intOf c).toNat)
  case atStart => exact ⟨t0, l0, _, rfl, vint HLI.out, HDM.out, st, htb, hl0b, by rw [World.drewN_drewN, World.drewN_drewN]⟩
  case round =>
    obtain ⟨t, l, k, rfl, rfl, hw1, hqt, htb2, hlb, rfl⟩ := hrel
    have HW1 := Lib.hid hw1
    have hor := or_add hlb hu0
    by_cases hc : 4294967296 ≤ t ∨ l * 4294967296 + u0 < t * v0
    · have hdn : q < t := by
        have h := guess_down HG.out (t := t) (left := l) hw1 hc
        rw [HQ.out] at h
        exact h
      obtain ⟨t1, ht1⟩ : ∃ t1, t = t1 + 1 := ⟨t - 1, by omega⟩
      have hw2 : t1 * v1 + (l + v1) = u1 + B32 * u2 := by
        rw [← hw1, ht1, Nat.add_mul]; omega
      have HW2 := Lib.hid hw2
      clear hw1
      have e0 : (t : Int) - 1 = (t1 : Int) := by omega
      have hbr := guess_break HG.out (t := t1) (left := l + v1) hw2
      have hend := guess_end HG.out (t := t1) (left := l + v1) hw2
      rw [HQ.out] at hend
      have HB := Lib.hid hbr
      have HE := Lib.hid hend
      have hq1 : q ≤ t1 := by omega
      have htb3 : t1 < 4294967298 := by omega
      have hm1 : (1 : Int) ≤ (t : Int) := by omega
      have hmt : t1 < t := by omega
      clear hw2 hbr hend hdn hqt
      rcases Nat.lt_or_ge t 4294967296 with hs | hs
      · obtain ⟨p, hp0, hp1, hp2⟩ := prod_name hs hv0
        have hci : (l : Int) * 4294967296 + (u0 : Int) < (p : Int) := by rw [hp0] at hc; omega
        have hsh : ((t : Int) / 4294967296 != 0) = false := by simp; omega
        have hs1 : t1 < 4294967296 := by omega
        clear hc ht1 hp0
        by_cases hl2 : 4294967296 ≤ l + v1
        · have hsl : (((l : Int) + (v1 : Int)) / 4294967296 != 0) = true := by simp; omega
          have HR := Lib.hid (show Guessed q (.returned (.int .u32 t1)) from ⟨t1, rfl, by omega, HE.out (by omega) (HB.out hl2).2, by omega⟩)
          go_wp2
          go_ret
          exact ⟨HR.out, k, rfl⟩
        · have hsl : (((l : Int) + (v1 : Int)) / 4294967296 != 0) = false := by simp; omega
          go_wp2
          go_roundw
          case rel => exact ⟨t1, l + v1, k, rfl, vint (by omega), HW2.out, by omega, by omega, by omega, rfl⟩
          case measure => simp [RowKit.intOf]; omega
      · have hsh : ((t : Int) / 4294967296 != 0) = true := by simp; omega
        clear hc ht1
        by_cases hl2 : 4294967296 ≤ l + v1
        · have hsl : (((l : Int) + (v1 : Int)) / 4294967296 != 0) = true := by simp; omega
          have ht4 : t1 < 4294967296 := (HB.out hl2).1
          have HR := Lib.hid (show Guessed q (.returned (.int .u32 t1)) from ⟨t1, rfl, by omega, HE.out ht4 (HB.out hl2).2, ht4⟩)
          go_wp2
          go_ret
          exact ⟨HR.out, k, rfl⟩
        · have hsl : (((l : Int) + (v1 : Int)) / 4294967296 != 0) = false := by simp; omega
          go_wp2
          go_roundw
          case rel => exact ⟨t1, l + v1, k, rfl, vint (by omega), HW2.out, by omega, by omega, by omega, rfl⟩
          case measure => simp [RowKit.intOf]; omega
    · have ht4 : t < 4294967296 := by omega
      obtain ⟨p, hp0, hp1, hp2⟩ := prod_name ht4 hv0
      have hci : (p : Int) ≤ (l : Int) * 4294967296 + (u0 : Int) := by rw [hp0] at hc; omega
      have hsh : ((t : Int) / 4294967296 != 0) = false := by simp; omega
      have hend := guess_end HG.out (t := t) (left := l) hw1 ht4 (show t * v0 ≤ l * 4294967296 + u0 by rw [hp0]; omega)
      rw [HQ.out] at hend
      have HR := Lib.hid (show Guessed q (.returned (.int .u32 t)) from ⟨t, rfl, hqt, hend, ht4⟩)
      clear hc hp0 hw1 hend
      go_wp2
      go_ret
      exact ⟨HR.out, k, rfl⟩
end Go.Proofs.YtkjdmjglpbnmoaaGreatDoor

namespace Go.Proofs.YtkjdmjglpbnmoaaGreatDoor

/-- The dividend, shifted up into one limb more. -/
theorem shu_more {B P : Nat} {xs cur : List Nat} {c : Nat} (h : ShuR B P xs cur xs.length c) (hl : cur.length = xs.length + 1) (hP : P ≤ B) : Lim B (cur.set xs.length c) ∧ (cur.set xs.length c).length = xs.length + 1 ∧ vl B (cur.set xs.length c) = vl B xs * P := by
  obtain ⟨h1, h2, h3⟩ := h
  refine ⟨lim_set h3 (by omega), by rw [List.length_set, hl], ?_⟩
  rw [vl_take_all (Nat.le_refl _)] at h1
  rw [← vl_take_all (B := B) (l := cur.set xs.length c) (k := xs.length + 1) (by rw [List.length_set]; omega), take_set_succ (by omega), vl_snoc, List.length_take, Nat.min_eq_left (by omega), h1]
/-- The divisor, shifted up into as many limbs: nothing is carried out of it, and its top limb is great. -/
theorem shu_same {B P y H : Nat} {ys cur : List Nat} {c : Nat} (h : ShuR B P ys cur ys.length c) (hl : cur.length = ys.length) (hy : Lim B ys) (h0 : 0 < ys.length) (hye : ys[ys.length - 1] = y) (h1 : H ≤ y * P) (h2 : (y + 1) * P ≤ B) :
    c = 0 ∧ vl B cur = vl B ys * P ∧ (∀ h : ys.length - 1 < cur.length, H ≤ cur[ys.length - 1]) ∧ vl B cur < B ^ ys.length := by
  obtain ⟨a1, a2, a3⟩ := h
  rw [vl_take_all (Nat.le_refl _), vl_take_all (by omega)] at a1
  have e1 : vl B ys = vl B (ys.take (ys.length - 1)) + B ^ (ys.length - 1) * y := by
    have := vl_take_succ B ys (ys.length - 1) (by omega)
    rw [show ys.length - 1 + 1 = ys.length by omega, vl_take_all (Nat.le_refl _), hye] at this
    exact this
  have e2 : vl B (ys.take (ys.length - 1)) < B ^ (ys.length - 1) := by
    have := vl_lt (lim_take hy (ys.length - 1))
    rwa [List.length_take, Nat.min_eq_left (by omega)] at this
  have e3 : B ^ ys.length = B ^ (ys.length - 1) * B := by rw [← Nat.pow_succ, show (ys.length - 1).succ = ys.length by omega]
  have e4 : vl B ys * P < B ^ ys.length := by
    have f1 : (vl B ys + 1) * P ≤ B ^ (ys.length - 1) * (y + 1) * P := Nat.mul_le_mul_right _ (by rw [Nat.mul_add]; omega)
    have f2 : B ^ (ys.length - 1) * ((y + 1) * P) ≤ B ^ (ys.length - 1) * B := Nat.mul_le_mul_left _ h2
    rw [e3]
    rw [Nat.mul_assoc] at f1
    have hP : 0 < P := by
      rcases Nat.eq_zero_or_pos P with hp | hp
      · subst hp; omega
      · exact hp
    rw [Nat.add_mul] at f1
    omega
  have hc : c = 0 := by
    rcases Nat.eq_zero_or_pos c with h | h
    · exact h
    · have : B ^ ys.length * 1 ≤ B ^ ys.length * c := Nat.mul_le_mul_left _ h
      omega
  subst hc
  rw [Nat.mul_zero, Nat.add_zero] at a1
  refine ⟨rfl, a1, fun hh => ?_, by rw [a1]; exact e4⟩
  have g1 := vl_take_succ B cur (ys.length - 1) hh
  rw [show ys.length - 1 + 1 = ys.length by omega, vl_take_all (by omega)] at g1
  have g2 := vl_lt (lim_take a3 (ys.length - 1))
  rw [List.length_take, Nat.min_eq_left (by omega)] at g2
  have g3 : B ^ (ys.length - 1) * H ≤ vl B cur := by
    rw [a1, e1, Nat.add_mul]
    have : B ^ (ys.length - 1) * H ≤ B ^ (ys.length - 1) * (y * P) := Nat.mul_le_mul_left _ h1
    rw [← Nat.mul_assoc] at this
    omega
  obtain ⟨z, hz⟩ : ∃ z, cur[ys.length - 1] = z := ⟨_, rfl⟩
  rw [hz] at g1 ⊢
  rcases Nat.lt_or_ge z H with h | h
  · have : B ^ (ys.length - 1) * (z + 1) ≤ B ^ (ys.length - 1) * H := Nat.mul_le_mul_left _ h
    rw [Nat.mul_add] at this
    omega
  · exact h
/-- The two top limbs. -/
theorem vl_two {B : Nat} {l : List Nat} {n : Nat} (hn : l.length = n) (h2 : 2 ≤ n) : vl B l = vl B (l.take (n - 2)) + B ^ (n - 2) * (l[n - 2]'(by omega) + B * l[n - 1]'(by omega)) := by
  have a := vl_take_succ B l (n - 2) (by omega)
  have b := vl_take_succ B l (n - 1) (by omega)
  rw [show n - 2 + 1 = n - 1 by omega] at a
  rw [show n - 1 + 1 = n by omega, vl_take_all (by omega)] at b
  rw [b, a, show B ^ (n - 1) = B ^ (n - 2) * B by rw [← Nat.pow_succ, show (n - 2).succ = n - 1 by omega], Nat.mul_add, Nat.mul_assoc]
  omega
/-- The three top limbs. -/
theorem vl_three {B : Nat} {l : List Nat} {n : Nat} (hn : l.length = n + 1) (h2 : 2 ≤ n) : vl B l = vl B (l.take (n - 2)) + B ^ (n - 2) * (l[n - 2]'(by omega) + B * (l[n - 1]'(by omega) + B * l[n]'(by omega))) := by
  have a := vl_take_succ B l (n - 2) (by omega)
  have b := vl_take_succ B l (n - 1) (by omega)
  have c := vl_take_succ B l n (by omega)
  rw [show n - 2 + 1 = n - 1 by omega] at a
  rw [show n - 1 + 1 = n by omega] at b
  rw [vl_take_all (by omega)] at c
  rw [c, b, a, show B ^ n = B ^ (n - 2) * B * B by rw [← Nat.pow_succ, ← Nat.pow_succ, show (n - 2).succ.succ = n by omega], show B ^ (n - 1) = B ^ (n - 2) * B by rw [← Nat.pow_succ, show (n - 2).succ = n - 1 by omega]]
  simp only [Nat.mul_add, Nat.mul_assoc]
  omega
theorem guess_of {B : Nat} {Ds part : List Nat} {n : Nat} (hD : Lim B Ds) (hp : Lim B part) (h2 : 2 ≤ n) (hn : Ds.length = n) (hpn : part.length = n + 1) (htop : B ≤ 2 * Ds[n - 1]'(by omega)) (hB : 2 ≤ B) (hlt : vl B part < B * vl B Ds) :
    GuessOk B (B ^ (n - 2)) (vl B (Ds.take (n - 2))) (Ds[n - 1]'(by omega)) (Ds[n - 2]'(by omega)) (vl B (part.take (n - 2))) (part[n]'(by omega)) (part[n - 1]'(by omega)) (part[n - 2]'(by omega)) := by
  refine ⟨Nat.pow_pos (by omega), ?_, ?_, lim_get hD _ _, lim_get hD _ _, lim_get hp _ _, htop, hB, ?_⟩
  · have := vl_lt (lim_take hD (n - 2))
    rwa [List.length_take, Nat.min_eq_left (by omega)] at this
  · have := vl_lt (lim_take hp (n - 2))
    rwa [List.length_take, Nat.min_eq_left (by omega)] at this
  · rw [← vl_two hn h2, ← vl_three hpn h2]
    exact hlt
/-- takeFrom, borrow or not, of the part. -/
theorem take_end {B : Nat} {t : Nat} {part Ds cur : List Nat} {m r : Nat} (h : TakeR B t part Ds cur part.length m r) (hlen : Ds.length < part.length) (ht : t ≤ B) : m = 0 ∧ vl B cur + t * vl B Ds = vl B part + B ^ part.length * r ∧ Lim B cur ∧ cur.length = part.length ∧ r ≤ 1 := by
  obtain ⟨h1, h2, h3, _, h5⟩ := h
  have hm := h5 hlen ht
  subst hm
  rw [vl_take_all (by rw [h1.len]; exact Nat.le_refl _), vl_take_all (Nat.le_refl _), vl_take_all (by omega), Nat.zero_add] at h2
  exact ⟨rfl, h2, h1.lim, h1.len, h3⟩
theorem add_end {B : Nat} {part Ds cur : List Nat} {c : Nat} (h : AddR B part Ds cur part.length c) (hlen : Ds.length ≤ part.length) : vl B cur + B ^ part.length * c = vl B part + vl B Ds ∧ Lim B cur ∧ cur.length = part.length ∧ c ≤ 1 := by
  obtain ⟨h1, h2, h3⟩ := h
  rw [vl_take_all (by rw [h1.len]; exact Nat.le_refl _), vl_take_all (Nat.le_refl _), vl_take_all hlen] at h2
  exact ⟨h2, h1.lim, h1.len, h3⟩
/-- The state ahead of the first round. -/
theorem long_start {B P la lb m : Nat} (hB : 0 < B) {xs ys As : List Nat} (hx : Lim B xs) (hla : xs.length = la) (hlb : ys.length = lb) (hy : Top ys) (hlb0 : 0 < lb) (hm : m + lb = la + 1) (hA : Lim B As) (hAl : As.length = la + 1) (hv : vl B As = vl B xs * P) (hP : 0 < P) :
    Long B (vl B ys * P) (vl B xs * P) As (List.replicate m 0) m := by
  refine ⟨hA, lim_zeros hB m, ?_, ?_⟩
  · have h1 := vl_take_drop B As m (by omega)
    have h2 := vl_lt hx
    have h3 := vl_top (B := B) hy (by intro e; subst e; simp at hlb; omega)
    rw [hlb] at h3
    rw [hla] at h2
    have h4 : B ^ la = B ^ m * B ^ (lb - 1) := by rw [← Nat.pow_add]; congr 1; omega
    have h5 : vl B xs * P < B ^ m * (vl B ys * P) := by
      have a : vl B xs * P < B ^ la * P := (Nat.mul_lt_mul_right hP).2 h2
      have b : B ^ m * (B ^ (lb - 1) * P) ≤ B ^ m * (vl B ys * P) := Nat.mul_le_mul_left _ (Nat.mul_le_mul_right _ h3)
      rw [h4, Nat.mul_assoc] at a
      omega
    have h6 : B ^ m * vl B (As.drop m) < B ^ m * (vl B ys * P) := by omega
    exact Nat.lt_of_mul_lt_mul_left h6
  · rw [List.drop_of_length_le (by simp), vl_nil, Nat.mul_zero, Nat.mul_zero, Nat.add_zero, hv]
/-- The state behind the last round. -/
theorem long_end {B P n : Nat} {xs ys cur qs : List Nat} (h : Long B (vl B ys * P) (vl B xs * P) cur qs 0) (hP : 0 < P) (hD : vl B ys * P < B ^ n) (hn : n ≤ cur.length) : vl B (cur.take n) / P = vl B xs % vl B ys ∧ vl B qs = vl B xs / vl B ys := by
  have h1 := h.less
  have h2 := h.eq
  rw [List.drop_zero] at h1 h2
  rw [Nat.pow_zero, Nat.one_mul] at h2
  have h3 := zeros_above (cur := cur) (i := 0) (n := n) (by rw [List.drop_zero]; exact h1) hD (by omega)
  rw [Nat.zero_add] at h3
  have h4 := vl_take_drop B cur n hn
  rw [h3, Nat.mul_zero, Nat.add_zero] at h4
  have := unscale hP h2 h1
  rw [h4] at this
  exact this
end Go.Proofs.YtkjdmjglpbnmoaaGreatDoor

namespace Go.Proofs.YtkjdmjglpbnmoaaGreatDoor
open Go.RowKit Go.Lib


set_option maxRecDepth 100000 in
set_option maxHeartbeats 1000000 in
theorem addTo_any (g o cap cb : Nat) (A : Option Addr) (t : TypeId) (L R : List Value) (xs bs : List Nat) (w : World) (hA : At .u32 w g t L xs R) (ho : L.length = o) (hx : Lim B32 xs) (hb : Lim B32 bs) (hxn : xs.length ≤ 100000) (hbn : bs.length ≤ xs.length)
    (hr : Rd .u32 w A bs) (hoff : bs ≠ [] → Off A g) :
    Calls Tryz.prog 72 #[.slice (some ⟨g, o, none⟩) xs.length cap, .slice A bs.length cb] w fun e w' => e = .returned (.tuple #[]) ∧ (∃ cur c, At .u32 w' g t L cur R ∧ AddR B32 xs bs cur xs.length c) ∧ w.grownBy w' (some g) := by
  go_enter Tryz.func72, Tryz.ntmps72
  go_wp2
  go_loopw [4, 8] (fun c i wr => ∃ (k z : Nat) (cur : List Nat), k ≤ xs.length ∧ i = .int .i64 k ∧ c = .int .u64 z ∧ At .u32 wr g t L cur R ∧ AddR B32 xs bs cur k z ∧ w.grownBy wr (some g)) (fun _ i _ => xs.length - (RowKit.intOf i).toNat)
  case atStart => exact ⟨0, 0, xs, Nat.zero_le _, rfl, rfl, hA, addR_start hx, grown_refl _ _⟩
  case round =>
    obtain ⟨k, z, cur, hk, rfl, rfl, hAt, hR, hG⟩ := hrel
    have hc1 : z ≤ 1 := hR.2.2
    by_cases hlt : k < xs.length
    · have hcl := hAt.cell ho k (by rw [hR.1.len]; exact hlt)
      have hfz := hAt.frozen (o + k)
      rw [up_get hR.1 hlt] at hcl
      obtain ⟨x, hxe, hxk⟩ := lim32 hx k hlt
      rw [hxe] at hcl
      have HX := Lib.hid hxe; clear hxe
      by_cases hb2 : k < bs.length
      · obtain ⟨gb, ob, rfl, hcb⟩ := hr.kept hG (hoff (List.ne_nil_of_length_pos (by omega))) k hb2
        obtain ⟨y, hye, hyk⟩ := lim32 hb k hb2
        rw [hye] at hcb
        have HY := Lib.hid hye; clear hye
        go_wp2
        go_roundw
        case rel => exact ⟨k + 1, (z + x + y) / 4294967296, cur.set k ((z + x + y) % 4294967296), hlt, by go_num, by go_num, hAt.set ho k _ (by rw [hR.1.len]; exact hlt), addR_step (by decide) hR hx hb hlt _ (by rw [HX.out, getD_of hb2, HY.out]), grown_set hG _⟩
        case measure => simp [RowKit.intOf]; omega
      · go_wp2
        go_roundw
        case rel => exact ⟨k + 1, (z + x) / 4294967296, cur.set k ((z + x) % 4294967296), hlt, by go_num, by go_num, hAt.set ho k _ (by rw [hR.1.len]; exact hlt), addR_step (by decide) hR hx hb hlt _ (by rw [HX.out, getD_no hb2]; rfl), grown_set hG _⟩
        case measure => simp [RowKit.intOf]; omega
    · obtain rfl : k = xs.length := by omega
      go_wp2
      go_end0
      exact ⟨rfl, ⟨cur, z, hAt, hR⟩, hG⟩
end Go.Proofs.YtkjdmjglpbnmoaaGreatDoor

namespace Go.Proofs.YtkjdmjglpbnmoaaGreatDoor
open Go.RowKit Go.Lib

theorem bitLenAux_bounds : ∀ (f x : Nat), x < 2 ^ f → x ≠ 0 → 0 < Lib.bitLenAux f x ∧ Lib.bitLenAux f x ≤ f ∧ 2 ^ (Lib.bitLenAux f x - 1) ≤ x ∧ x < 2 ^ Lib.bitLenAux f x
  | 0, x, h, h0 => by simp at h; exact absurd h h0
  | f + 1, x, h, h0 => by
    rw [Lib.bitLenAux, if_neg h0]
    by_cases h2 : x / 2 = 0
    · have hx1 : x = 1 := by omega
      subst hx1
      have : Lib.bitLenAux f (1 / 2) = 0 := by cases f <;> simp [Lib.bitLenAux]
      rw [this]
      simp
    · obtain ⟨a, b, c, d⟩ := bitLenAux_bounds f (x / 2) (by rw [Nat.pow_succ] at h; omega) h2
      obtain ⟨m, hm⟩ : ∃ m, Lib.bitLenAux f (x / 2) = m + 1 := ⟨Lib.bitLenAux f (x / 2) - 1, by omega⟩
      rw [hm] at b c d ⊢
      rw [show 1 + (m + 1) = m + 1 + 1 by omega]
      simp only [Nat.add_sub_cancel, Nat.pow_succ] at c d ⊢
      omega
/-- By how much a limb is shifted, lest its highest digit be 0. -/
theorem lead_spec {y : Nat} (h0 : y ≠ 0) (hy : y < 4294967296) : ∃ k : Nat, (32 : Int) - (Lib.bitLen y : Int) = (k : Int) ∧ k < 32 ∧ 2147483648 ≤ y * 2 ^ k ∧ (y + 1) * 2 ^ k ≤ 4294967296 := by
  have e : Lib.bitLen y = Lib.bitLenAux 32 y := Lib.bitLenAux_fuel 32 y hy 64 (by omega)
  obtain ⟨a, b, c, d⟩ := bitLenAux_bounds 32 y hy h0
  rw [← e] at a b c d
  refine ⟨32 - Lib.bitLen y, by omega, by omega, ?_, ?_⟩
  · have h := Nat.mul_le_mul_right (2 ^ (32 - Lib.bitLen y)) c
    rw [← Nat.pow_add, show Lib.bitLen y - 1 + (32 - Lib.bitLen y) = 31 by omega] at h
    exact h
  · have h := Nat.mul_le_mul_right (2 ^ (32 - Lib.bitLen y)) (Nat.succ_le_of_lt d)
    rw [← Nat.pow_add, show Lib.bitLen y + (32 - Lib.bitLen y) = 32 by omega] at h
    exact h

/-- How a division ends: two rows of the call's own, in two blocks. -/
def DivEnd (w : World) (a b : Nat) (m : Nat) (e : Ending) (w' : World) : Prop :=
  ∃ (v v' : Value) (qs rs : List Nat), e = .returned (.tuple #[v, v']) ∧ Own .u32 w' w.heap.size 74 v qs ∧ Own .u32 w' w.heap.size 74 v' rs ∧ Lim B32 qs ∧ Lim B32 rs ∧ vl B32 qs = a / b ∧ vl B32 rs = a % b ∧ qs.length ≤ m ∧ rs.length ≤ m ∧
    v.ownBlock ≠ v'.ownBlock ∧ Below w.heap.size w w'

theorem zeros_nums (n : Nat) : (madeCells (Value.int .u32 0).cells (n * 1)).toList = nums .u32 (List.replicate n 0) := by
  rw [Nat.mul_one]
  show (madeCells #[Value.int .u32 0] n).toList = _
  rw [toList_madeCells_one, nums, List.map_replicate]
  rfl
/-- A new block of noughts. -/
theorem at_made (w : World) (n : Nat) : At .u32 (w.alloc (.cells (madeCells (Value.int .u32 0).cells (n * 1)) 74)) w.heap.size 74 [] (List.replicate n 0) [] :=
  ⟨_, heap_alloc_new w _, by rw [zeros_nums]; simp⟩

/-- Two new blocks, one behind the other, and a draw. -/
theorem two_new (w : World) (n m : Nat) : At .u32 (((w.alloc (.cells (madeCells #[Value.int .u32 0] n) 74)).alloc (.cells (madeCells #[Value.int .u32 0] m) 74)).drew) w.heap.size 74 [] (List.replicate n 0) [] ∧
    At .u32 (((w.alloc (.cells (madeCells #[Value.int .u32 0] n) 74)).alloc (.cells (madeCells #[Value.int .u32 0] m) 74)).drew) (w.heap.size + 1) 74 [] (List.replicate m 0) [] ∧
    Below w.heap.size w (((w.alloc (.cells (madeCells #[Value.int .u32 0] n) 74)).alloc (.cells (madeCells #[Value.int .u32 0] m) 74)).drew) := by
  have a := at_made w n
  have b := at_made (w.alloc (.cells (madeCells #[Value.int .u32 0] n) 74)) m
  rw [Nat.mul_one] at a b
  have e : (w.alloc (.cells (madeCells #[Value.int .u32 0] n) 74)).heap.size = w.heap.size + 1 := by simp
  rw [e] at b
  exact ⟨(a.alloc _).drew, b.drew, (((Below.refl _ _).alloc (Nat.le_refl _) _).alloc (by simp) _).drew⟩

set_option maxRecDepth 100000 in
set_option maxHeartbeats 4000000 in
theorem divLong_any (A A' : Option Addr) (ca cb : Nat) (xs ys : List Nat) (w : World) (hx : Lim B32 xs) (hy : Norm B32 ys) (hy2 : 2 ≤ ys.length) (hl : ys.length ≤ xs.length) (hxn : xs.length ≤ 1000) (hra : Rd .u32 w A xs) (hrb : Rd .u32 w A' ys) :
    Calls Tryz.prog 69 #[.slice A xs.length ca, .slice A' ys.length cb] w (DivEnd w (vl B32 xs) (vl B32 ys) xs.length) := by
  obtain ⟨i0, hi, hz0, hz1, hz2⟩ := info_parts info_u32
  have hmk : ∀ (n : Nat) (W : World), n ≤ 100000 → (Instr.makeSlice 44 (.int .i64 (n : Int)) (.int .i64 (n : Int))).run Tryz.prog W = .ok (.slice (some ⟨W.heap.size, 0, none⟩) n n) (W.alloc (.cells (madeCells (Value.int .u32 0).cells (n * 1)) 74)) := fun n W hn => by
    have := run_make (P := Tryz.prog) W 44 74 i0 (.int .u32 0) Tryz.underlying44 hi hz0 .i64 .i64 (n : Int) (n : Int) (by omega) (by omega) (by rw [hz2]; omega) (by omega)
    rw [hz1] at this
    exact this
  obtain ⟨g', o', rfl, hcb⟩ := hrb.at_ (by intro e; rw [e] at hy2; simp at hy2)
  obtain ⟨g0, o0, rfl, _⟩ := hra.at_ (by intro e; rw [e] at hl; simp at hl; rw [hl] at hy2; simp at hy2)
  have hyt := (top_get (xs := ys) (by omega)).1 hy.2
  obtain ⟨y, hye, hyk⟩ := lim32 hy.1 (ys.length - 1) (by omega)
  have hc1 := hcb (ys.length - 1) (by omega)
  rw [hye] at hyt hc1
  obtain ⟨k, hk1, hk2, hk3, hk4⟩ := lead_spec hyt hyk
  have hmkl : ∀ W : World, (Instr.makeSlice 44 (.int .i64 ((xs.length : Int) + 1)) (.int .i64 ((xs.length : Int) + 1))).run Tryz.prog W = .ok (.slice (some ⟨W.heap.size, 0, none⟩) (xs.length + 1) (xs.length + 1)) (W.alloc (.cells (madeCells (Value.int .u32 0).cells ((xs.length + 1) * 1)) 74)) := fun W => hmk (xs.length + 1) W (by omega)
  have hmkb : ∀ W : World, (Instr.makeSlice 44 (.int .i64 (ys.length : Int)) (.int .i64 (ys.length : Int))).run Tryz.prog W = .ok (.slice (some ⟨W.heap.size, 0, none⟩) ys.length ys.length) (W.alloc (.cells (madeCells (Value.int .u32 0).cells (ys.length * 1)) 74)) := fun W => hmk ys.length W (by omega)
  obtain ⟨m, hm⟩ : ∃ m : Nat, m + ys.length = xs.length + 1 := ⟨xs.length + 1 - ys.length, by omega⟩
  have hmI : (xs.length : Int) - (ys.length : Int) + 1 = (m : Int) := by omega
  have hmkq : ∀ W : World, (Instr.makeSlice 44 (.int .i64 (m : Int)) (.int .i64 (m : Int))).run Tryz.prog W = .ok (.slice (some ⟨W.heap.size, 0, none⟩) m m) (W.alloc (.cells (madeCells (Value.int .u32 0).cells (m * 1)) 74)) := fun W => hmk m W (by omega)
  have HM := Lib.hid hm
  have hmb : m ≤ 2000 := by omega
  have hm1 : 1 ≤ m := by omega
  have HP := Lib.hid (show 2 ^ k ≤ B32 from (Nat.pow_le_pow_right (by omega) (show k ≤ 32 by omega) : 2 ^ k ≤ 2 ^ 32))
  have HXN := Lib.hid (show xs ≠ [] from List.ne_nil_of_length_pos (by omega))
  have HYN := Lib.hid (show ys ≠ [] from List.ne_nil_of_length_pos (by omega))
  have HYE := Lib.hid hye
  clear hm
  have cZ := Tryz.bits_LeadingZeros32 (y : Int) w (by omega) (by omega)
  rw [show ((y : Int)).toNat = y from rfl, hk1] at cZ
  have CZ := Lib.hid cZ
  clear cZ hk1
  have s1 : IntKind.i64.wrap ((xs.length : Int) + 1) = (xs.length : Int) + 1 := IntWalk.i64_in _ (by omega)
  clear hmk hcb hye
  go_enter Tryz.func69, Tryz.ntmps69
  go_wp2_with fail
  refine CZ.out.mono ?_
  rintro e w ⟨rfl, rfl⟩
  go_wp2
  go_region
  all_goals go_wp2_with fail
  all_goals
    first
    | (obtain ⟨fL, fB, fW⟩ := two_new w (xs.length + 1) ys.length
       obtain ⟨W1, hW⟩ : ∃ W1, (((w.alloc (.cells (madeCells #[Value.int .u32 0] (xs.length + 1)) 74)).alloc (.cells (madeCells #[Value.int .u32 0] ys.length) 74)).drew) = W1 := ⟨_, rfl⟩
       rw [hW] at fL fB fW
       rw [hW]
       clear hW
       obtain ⟨gb, hgb⟩ : ∃ gb, w.heap.size + 1 = gb := ⟨_, rfl⟩
       obtain ⟨gl, hgl⟩ : ∃ gl, w.heap.size = gl := ⟨_, rfl⟩
       have hbl : w.heap.size ≤ gl := by omega
       have hbb : w.heap.size ≤ gb := by omega
       have hne : gl ≠ gb := by omega
       rw [hgb] at fB
       rw [hgl] at fL
       rw [hgb, hgl]
       clear hgl hgb)
    | (obtain ⟨fB, fL, fW⟩ := two_new w ys.length (xs.length + 1)
       obtain ⟨W1, hW⟩ : ∃ W1, (((w.alloc (.cells (madeCells #[Value.int .u32 0] ys.length) 74)).alloc (.cells (madeCells #[Value.int .u32 0] (xs.length + 1)) 74)).drew) = W1 := ⟨_, rfl⟩
       rw [hW] at fL fB fW
       rw [hW]
       clear hW
       obtain ⟨gl, hgl⟩ : ∃ gl, w.heap.size + 1 = gl := ⟨_, rfl⟩
       obtain ⟨gb, hgb⟩ : ∃ gb, w.heap.size = gb := ⟨_, rfl⟩
       have hbl : w.heap.size ≤ gl := by omega
       have hbb : w.heap.size ≤ gb := by omega
       have hne : gl ≠ gb := by omega
       rw [hgb] at fB
       rw [hgl] at fL
       rw [hgl, hgb]
       clear hgl hgb)
  all_goals
    have c1 := shiftUp_any gl 0 (xs.length + 1) ca k (some ⟨g0, o0, none⟩) 74 [] [] (List.replicate (xs.length + 1) 0) xs W1 fL rfl (lim_zeros (by decide) _) hx (by simp; omega) (by simp) hk2 (hra.below fW) (fun _ => hra.off HXN.out hbl)
    rw [List.length_replicate] at c1
    refine c1.mono ?_
    clear c1
    rintro e W2 ⟨rfl, ⟨cur, c, hS, hl1, _, hA1⟩, hG1⟩
    rw [List.length_replicate] at hl1 hA1
    rw [putTop, if_pos (Nat.lt_succ_self _)] at hA1
    obtain ⟨b1, b2, b3⟩ := shu_more hS hl1 (HP.out)
    obtain ⟨As, hAs⟩ : ∃ As, cur.set xs.length c = As := ⟨_, rfl⟩
    rw [hAs] at hA1 b1 b2 b3
    have fB2 : At .u32 W2 gb 74 [] (List.replicate ys.length 0) [] := fB.kept hG1 (by simpa using hne.symm)
    have fW2 : Below w.heap.size w W2 := grown_below fW hG1 fW.size hbl
    have B2 := Lib.hid b2
    have B3 := Lib.hid b3
    clear hS hl1 hAs hG1 b2 b3 fL fB fW
    go_wp2_with fail
    have c2 := shiftUp_any gb 0 ys.length cb k (some ⟨g', o', none⟩) 74 [] [] (List.replicate ys.length 0) ys W2 fB2 rfl (lim_zeros (by decide) _) hy.1 (by simp; omega) (by simp) hk2 (hrb.below fW2) (fun _ => hrb.off HYN.out hbb)
    rw [List.length_replicate] at c2
    refine c2.mono ?_
    clear c2
    rintro e W3 ⟨rfl, ⟨Ds, c2, hS, hl1, _, hD1⟩, hG2⟩
    rw [List.length_replicate] at hl1 hD1
    rw [putTop, if_neg (Nat.lt_irrefl _)] at hD1
    obtain ⟨_, d2, d3, d4⟩ := shu_same (H := 2147483648) hS hl1 hy.1 (by omega) HYE.out hk3 hk4
    have dl := hS.2.2
    have fA3 : At .u32 W3 gl 74 [] As [] := hA1.kept hG2 (by simpa using hne)
    have fW3 : Below w.heap.size w W3 := grown_below fW2 hG2 fW2.size hbb
    rw [d2] at d4
    have D2 := Lib.hid d2
    have D3 := Lib.hid d3
    have D4 := Lib.hid d4
    have HDL := Lib.hid hl1
    clear hS d2 d3 d4 hl1 hG2 fB2 fW2 hA1
    go_wp2
    have fQ4 := at_made W3 m
    rw [Nat.mul_one] at fQ4
    have fA4 := fA3.alloc (.cells (madeCells (Value.int .u32 0).cells m) 74)
    have fB4 := hD1.alloc (.cells (madeCells (Value.int .u32 0).cells m) 74)
    have fW4 := fW3.alloc fW3.size (.cells (madeCells (Value.int .u32 0).cells m) 74)
    have nl := fA3.lt
    have nb := hD1.lt
    have nq := fW3.size
    have HS0 := Lib.hid (long_start (P := 2 ^ k) (m := m) (by decide) hx rfl rfl hy.2 (by omega) HM.out b1 B2.out B3.out (Nat.pow_pos (by omega)))
    obtain ⟨gq, hgq⟩ : ∃ gq, W3.heap.size = gq := ⟨_, rfl⟩
    rw [hgq] at nl nb nq
    rw [hgq] at fQ4
    rw [hgq]
    clear hgq fA3 hD1 fW3
    go_loopw [10] (fun i wr => ∃ (j : Nat) (cur qs : List Nat), j ≤ m ∧ i = .int .i64 ((j : Int) - 1) ∧ At .u32 wr gl 74 [] cur [] ∧ At .u32 wr gb 74 [] Ds [] ∧ At .u32 wr gq 74 [] qs [] ∧
        Long B32 (vl B32 ys * 2 ^ k) (vl B32 xs * 2 ^ k) cur qs j ∧ cur.length = xs.length + 1 ∧ qs.length = m ∧ Below w.heap.size w wr) (fun i _ => (RowKit.intOf i + 1).toNat)
    case atStart => exact ⟨m, As, List.replicate m 0, Nat.le_refl _, rfl, fA4, fB4, fQ4, HS0.out, B2.out, List.length_replicate, fW4⟩
    case round =>
      clear fA4 fB4 fQ4 fW4 HS0
      obtain ⟨j, cur, qs, hj, rfl, fA, fB, fQ, hL, hcl, hql, fW⟩ := hrel
      have HCL := Lib.hid hcl
      have HQL := Lib.hid hql
      clear hcl hql
      rcases j with _ | j
      · have HE := Lib.hid (long_end hL (Nat.pow_pos (by omega)) D4.out (by rw [HCL.out]; omega))
        have hlt : (cur.take ys.length).length = ys.length := by rw [List.length_take, HCL.out]; omega
        have fA' : At .u32 wr gl 74 [] (cur.take ys.length) (nums .u32 (cur.drop ys.length)) := fA.recut (by rw [List.nil_append, List.append_nil, List.nil_append, ← nums_append, List.take_append_drop])
        have c4 := shiftDown_any gl 0 (xs.length + 1) k 74 [] (nums .u32 (cur.drop ys.length)) (cur.take ys.length) wr fA' rfl (lim_take hL.lim _) (by omega) hk2
        rw [hlt] at c4
        have C4 := Lib.hid c4
        have HLT := Lib.hid hlt
        clear c4 hlt fA'
        go_wp2_with fail
        refine C4.out.mono ?_
        rintro e W5 ⟨rfl, ⟨cur5, v5, fA5, hS5⟩, hG5⟩
        have hv5 := hS5.2.1
        have hl5 := hS5.1.len
        rw [List.drop_zero, List.drop_zero] at hv5
        rw [HLT.out] at hl5
        have fQ5 : At .u32 W5 gq 74 [] qs [] := fQ.kept hG5 (by simp; omega)
        have fW5 : Below w.heap.size w W5 := grown_below fW hG5 fW.size hbl
        have o1 := own_of_at (B := w.heap.size) (cap := m) fQ5 nq (by rw [HQL.out]; simp) (by unfold maxLen; omega)
        have o2 := own_of_at (B := w.heap.size) (cap := xs.length + 1) fA5 hbl (by rw [hl5, nums_len, List.length_drop, HCL.out]; omega) (by unfold maxLen; omega)
        rw [HQL.out] at o1
        rw [hl5] at o2
        have O1 := Lib.hid o1
        have O2 := Lib.hid o2
        have V5 := Lib.hid hv5
        have L5 := Lib.hid hl5
        have ll := hS5.1.lim
        have lq := hL.qlim
        clear o1 o2 hv5 hl5 hS5 hG5 fQ5 fA fB fQ fW fA5
        go_wp2
        go_ret2
        exact ⟨_, _, qs, cur5, rfl, O1.out, O2.out, lq, ll, HE.out.2, by rw [V5.out]; exact HE.out.1, by rw [HQL.out]; omega, by rw [L5.out]; exact hl, by simp [Value.ownBlock]; omega, fW5⟩
      · have hjn : j + 1 + ys.length ≤ xs.length + 1 := by have := HM.out; omega
        have hpl : ((cur.drop j).take (ys.length + 1)).length = ys.length + 1 := by rw [List.length_take, List.length_drop, HCL.out]; omega
        have hlp := long_part hL D4.out (by rw [HCL.out]; omega)
        have hplim : Lim B32 ((cur.drop j).take (ys.length + 1)) := lim_take (lim_drop hL.lim _) _
        have hcut : cur.take j ++ (cur.drop j).take (ys.length + 1) ++ cur.drop (j + 1 + ys.length) = cur := by
          rw [List.append_assoc, show j + 1 + ys.length = j + (ys.length + 1) by omega, ← List.drop_drop, List.take_append_drop, List.take_append_drop]
        have fP : At .u32 wr gl 74 (nums .u32 (cur.take j)) ((cur.drop j).take (ys.length + 1)) (nums .u32 (cur.drop (j + 1 + ys.length))) := fA.recut (by
          rw [List.nil_append, List.append_nil, ← nums_append, ← nums_append, hcut])
        have hoj : (nums .u32 (cur.take j)).length = j := by rw [nums_len, List.length_take, HCL.out]; omega
        obtain ⟨part, hpart⟩ : ∃ part, (cur.drop j).take (ys.length + 1) = part := ⟨_, rfl⟩
        rw [hpart] at hpl hlp hplim fP
        have hgs := guess_of (n := ys.length) dl hplim hy2 HDL.out hpl (by have := D3.out (by rw [HDL.out]; omega); show 4294967296 ≤ _; omega) (by decide) (by rw [D2.out, hlp.1]; exact hlp.2)
        have cG := fun cp => guess_any gl j cp gb 0 ys.length ys.length _ _ _ _ _ _ _ _ wr hy2 (by omega) hgs (lim_get hplim _ _) (lim_get hplim _ _)
          (fB.cell (o := 0) rfl (ys.length - 1) (by rw [HDL.out]; omega)) (fB.cell (o := 0) rfl (ys.length - 2) (by rw [HDL.out]; omega))
          (fP.cell hoj ys.length (by omega)) (fP.cell hoj (ys.length - 1) (by omega)) (fP.cell hoj (ys.length - 2) (by omega))
        rw [← vl_two HDL.out hy2, ← vl_three hpl hy2, D2.out, hlp.1] at cG
        have CG := Lib.hid cG
        have HL := Lib.hid hL
        have HPL := Lib.hid hpl
        have HLP := Lib.hid hlp
        have HPL2 := Lib.hid hplim
        have HOJ := Lib.hid hoj
        clear cG hgs hcut hpart hpl hlp hL hplim hoj fA
        rw [show ((j + 1 : Nat) : Int) - 1 = (j : Int) by omega]
        go_wp2_with fail
        rw [show j + ys.length + 1 - j = ys.length + 1 by omega]
        refine (CG.out _).mono ?_
        rintro e W5 ⟨⟨t, rfl, ht1, ht2, ht3⟩, nd, rfl⟩
        have c6 := takeFrom_any gl j (xs.length + 1 - j) ys.length t (some ⟨gb, 0, none⟩) 74 (nums .u32 (cur.take j)) (nums .u32 (cur.drop (j + 1 + ys.length))) part Ds (wr.drewN nd) (fP.drewN nd) HOJ.out HPL2.out dl (by rw [HPL.out]; omega) (by rw [HPL.out, HDL.out]; omega) ht3
          (fB.drewN nd).rd (fun _ a e => by cases e; exact hne.symm)
        rw [HPL.out, HDL.out] at c6
        have C6 := Lib.hid c6
        have fQ5 := fQ.drewN nd
        have fB5 := fB.drewN nd
        have fW5 := below_drewN' fW nd
        clear c6 CG fQ fB fW fP
        go_wp2_with fail
        refine C6.out.mono ?_
        rintro e W6 ⟨⟨cur1, m1, r1, fP1, hT, rfl⟩, hG6⟩
        have te := take_end (part := part) (by rw [HPL.out]; exact hT) (by rw [HPL.out, HDL.out]; omega) (by show t ≤ 4294967296; omega)
        rw [HPL.out, D2.out, HLP.out.1] at te
        have fQ6 : At .u32 W6 gq 74 [] qs [] := fQ5.kept hG6 (by simp; omega)
        have fB6 : At .u32 W6 gb 74 [] Ds [] := fB5.kept hG6 (by simpa using hne.symm)
        have fW6 : Below w.heap.size w W6 := grown_below fW5 hG6 fW5.size hbl
        have hDp : 0 < vl B32 ys * 2 ^ k := by
          have := HL.out.less
          omega
        have hMl : vl B32 cur1 < B32 ^ (ys.length + 1) := by have := vl_lt te.2.2.1; rwa [te.2.2.2.1] at this
        have hfz : W6.frozen? ⟨gq, j, none⟩ = false := fQ6.frozen j
        obtain ⟨u, hu⟩ : ∃ u, W6.cell? ⟨gq, j, none⟩ = some u := ⟨_, by have := fQ6.cell (o := 0) rfl j (by rw [HQL.out]; omega); rwa [Nat.zero_add] at this⟩
        clear hT hG6 fQ5 fB5 fW5 C6
        by_cases hr1 : r1 = 1
        · subst hr1
          have c7 := addTo_any gl j (xs.length + 1 - j) ys.length (some ⟨gb, 0, none⟩) 74 (nums .u32 (cur.take j)) (nums .u32 (cur.drop (j + 1 + ys.length))) cur1 Ds W6 fP1 HOJ.out te.2.2.1 dl (by rw [te.2.2.2.1]; omega) (by rw [te.2.2.2.1, HDL.out]; omega) fB6.rd (fun _ a e => by cases e; exact hne.symm)
          rw [te.2.2.2.1, HDL.out] at c7
          have C7 := Lib.hid c7
          have TE := Lib.hid te
          have HML := Lib.hid hMl
          have HT1 := Lib.hid ht1
          have HT2 := Lib.hid ht2
          clear c7 te hfz hu hMl ht1 ht2
          go_wp2_with fail
          refine C7.out.mono ?_
          rintro e W7 ⟨rfl, ⟨cur2, c2, fP2, hA2⟩, hG7⟩
          have ae := add_end (part := cur1) (by rw [TE.out.2.2.2.1]; exact hA2) (by rw [TE.out.2.2.2.1, HDL.out]; omega)
          rw [TE.out.2.2.2.1, D2.out] at ae
          have hM2 : vl B32 cur2 < B32 ^ (ys.length + 1) := by have := vl_lt ae.2.1; rwa [ae.2.2.1] at this
          have ty := take_yes (by have := TE.out.2.1; rwa [Nat.mul_one] at this) ae.1 HML.out hM2 ae.2.2.2 HT1.out HT2.out hDp
          have ls := long_step (n := ys.length) HL.out D4.out hDp (by rw [HCL.out]; omega) (by rw [HQL.out]; omega) ae.2.2.1 ae.2.1 ty.1
          rw [← ty.2.1] at ls
          have fQ7 : At .u32 W7 gq 74 [] qs [] := fQ6.kept hG7 (by simp; omega)
          have fB7 : At .u32 W7 gb 74 [] Ds [] := fB6.kept hG7 (by simpa using hne.symm)
          have fW7 : Below w.heap.size w W7 := grown_below fW6 hG7 fW6.size hbl
          have hfz : W7.frozen? ⟨gq, j, none⟩ = false := fQ7.frozen j
          obtain ⟨u, hu⟩ : ∃ u, W7.cell? ⟨gq, j, none⟩ = some u := ⟨_, by have := fQ7.cell (o := 0) rfl j (by rw [HQL.out]; omega); rwa [Nat.zero_add] at this⟩
          have ht0 : 1 ≤ t := ty.2.2
          have hal := ae.2.2.1
          have LS := Lib.hid ls
          have HAL := Lib.hid hal
          have fA7 : At .u32 W7 gl 74 [] (cur.take j ++ cur2 ++ cur.drop (j + 1 + ys.length)) [] := fP2.recut (by rw [List.nil_append, List.append_nil, nums_append, nums_append])
          have eT : IntKind.u32.wrap ((t : Int) - 1) = ((t - 1 : Nat) : Int) := by rw [IntWalk.u32_in _ (by omega)]; omega
          have q1 := (fQ7.set (o := 0) rfl j (t - 1) (by rw [HQL.out]; omega))
          rw [Nat.zero_add] at q1
          obtain ⟨t1, ht1⟩ : ∃ t1, t - 1 = t1 := ⟨_, rfl⟩
          have et : (t : Int) - 1 = (t1 : Int) := by omega
          have ht1b : t1 < 4294967296 := by omega
          rw [ht1] at q1 ls
          clear ls ty hM2 ae hal hA2 hG7 fP1 fP2 fQ6 fB6 fW6 C7 eT
          have HQ1 := Lib.hid q1
          have HT9 := Lib.hid ht1
          clear q1 ht1
          go_wp2
          go_roundw
          case rel => exact ⟨j, _, _, by omega, rfl, fA7.far (by omega) _, fB7.far (by omega) _, HQ1.out, by have := LS.out.1; rwa [HT9.out] at this, by rw [List.length_append, List.length_append, List.length_take, List.length_drop, HAL.out, HCL.out]; omega, by rw [List.length_set, HQL.out], fW7.setCell nq _⟩
          case measure => simp [RowKit.intOf]
        · obtain rfl : r1 = 0 := by have := te.2.2.2.2; omega
          have tn := take_no (by have := te.2.1; rwa [Nat.mul_zero, Nat.add_zero] at this) ht1 ht2 hDp
          have ls := long_step (n := ys.length) HL.out D4.out hDp (by rw [HCL.out]; omega) (by rw [HQL.out]; omega) te.2.2.2.1 te.2.2.1 tn.1
          rw [← tn.2] at ls
          have hal := te.2.2.2.1
          have LS := Lib.hid ls
          have HAL := Lib.hid hal
          have fA7 : At .u32 W6 gl 74 [] (cur.take j ++ cur1 ++ cur.drop (j + 1 + ys.length)) [] := fP1.recut (by rw [List.nil_append, List.append_nil, nums_append, nums_append])
          have q1 := (fQ6.set (o := 0) rfl j t (by rw [HQL.out]; omega))
          rw [Nat.zero_add] at q1
          have HQ1 := Lib.hid q1
          clear q1 ls tn hal te fP1 fQ6 hMl ht1 ht2 hr1
          go_wp2
          go_roundw
          case rel => exact ⟨j, _, _, by omega, rfl, fA7.far (by omega) _, fB6.far (by omega) _, HQ1.out, LS.out.1, by rw [List.length_append, List.length_append, List.length_take, List.length_drop, HAL.out, HCL.out]; omega, by rw [List.length_set, HQL.out], fW6.setCell nq _⟩
          case measure => simp [RowKit.intOf]
end Go.Proofs.YtkjdmjglpbnmoaaGreatDoor

namespace Go.Proofs.YtkjdmjglpbnmoaaGreatDoor
open Go.RowKit Go.Lib

/-- What Div answers. -/
noncomputable def divRes (xs ys : List Nat) : List Nat × List Nat × Int :=
  if vld xs = true ∧ vld ys = true then (if ys = [] then ([], [], 1) else (dig B32 (vl B32 xs / vl B32 ys), dig B32 (vl B32 xs % vl B32 ys), 0)) else ([], [], 30)
/-- How Div ends. -/
def DivEnd3 (w : World) (x : List Nat × List Nat × Int) (e : Ending) (w' : World) : Prop :=
  ∃ v v' : Value, e = .returned (.tuple #[v, v', .int .i64 x.2.2]) ∧ Own .u32 w' w.heap.size 74 v x.1 ∧ Own .u32 w' w.heap.size 74 v' x.2.1 ∧ (v.ownBlock = none ∨ v.ownBlock ≠ v'.ownBlock) ∧ Below w.heap.size w w'
theorem natres_fix {xs : List Nat} (h : Norm B32 xs) : dig B32 (vl B32 xs) = xs := dig_eq (by decide) h rfl
theorem from_small (n : Nat) (w : World) (hn : n < 4294967296) : Calls Tryz.prog 17 #[.int .u64 (n : Int)] w (Makes .u32 74 w (dig B32 n)) := by
  have := from_any n 0 w hn (by omega)
  simpa using this
theorem vld_norm {xs : List Nat} (hx : Lim B32 xs) (h : vld xs = true) : Norm B32 xs := ⟨hx, (vld_iff.1 h).2⟩
theorem one_div {B d left : Nat} {xs cur : List Nat} (h : DivR B d xs cur 0 left) : vl B cur = vl B xs / d ∧ left = vl B xs % d ∧ Lim B cur ∧ cur.length = xs.length := by
  obtain ⟨h1, h2, h3⟩ := h
  rw [List.drop_zero, List.drop_zero] at h2
  have := Nat.div_mod_unique (show 0 < d by omega) (a := vl B xs) (c := left) (d := vl B cur)
  have h4 := this.2 ⟨by rw [h2]; omega, h3⟩
  exact ⟨h4.1.symm, h4.2.symm, h1.lim, h1.len⟩
theorem vl_pos {ys : List Nat} (hy : Top ys) (h : ys ≠ []) : 0 < vl B32 ys := Nat.lt_of_lt_of_le (Nat.pow_pos (by decide)) (vl_top hy h)

set_option maxRecDepth 100000 in
set_option maxHeartbeats 4000000 in
theorem div_any (A A' : Option Addr) (ca cb : Nat) (xs ys : List Nat) (w : World) (hx : Lim B32 xs) (hy : Lim B32 ys) (hxn : xs.length ≤ 1000) (hyn : ys.length ≤ 1000) (hA : A = none → ca = 0) (hra : Rd .u32 w A xs) (hrb : Rd .u32 w A' ys) :
    Calls Tryz.prog 44 #[.slice A xs.length ca, .slice A' ys.length cb] w (DivEnd3 w (divRes xs ys)) := by
  have cV := fun (W : World) (h : Rd .u32 W A xs) => valid_any A ca xs W (by omega) hx h
  have cU := fun (W : World) (h : Rd .u32 W A' ys) => valid_any A' cb ys W (by omega) hy h
  by_cases hvx : vld xs = true
  case neg =>
    have hvf : vld xs = false := by simpa using hvx
    have HR := Lib.hid (show divRes xs ys = ([], [], 30) by rw [divRes, if_neg (fun h => hvx h.1)])
    rw [hvf] at cV
    have CV := Lib.hid cV
    clear cV cU hvx hvf
    go_enter Tryz.func44, Tryz.ntmps44
    go_wp2_with fail
    refine (CV.out _ hra).mono ?_
    rintro e w' ⟨rfl, rfl⟩
    go_wp2
    go_ret3
    exact ⟨_, _, by rw [HR.out]; rfl, by rw [HR.out]; exact Own.nil _ _ _, by rw [HR.out]; exact Own.nil _ _ _, .inl rfl, Below.refl _ _⟩
  by_cases hvy : vld ys = true
  case neg =>
    have hvf : vld ys = false := by simpa using hvy
    have HR := Lib.hid (show divRes xs ys = ([], [], 30) by rw [divRes, if_neg (fun h => hvy h.2)])
    rw [hvx] at cV
    rw [hvf] at cU
    have CV := Lib.hid cV
    have CU := Lib.hid cU
    clear cV cU hvx hvy hvf
    go_enter Tryz.func44, Tryz.ntmps44
    go_wp2_with fail
    refine (CV.out _ hra).mono ?_
    rintro e w' ⟨rfl, rfl⟩
    go_wp2_with fail
    refine (CU.out _ hrb).mono ?_
    rintro e w' ⟨rfl, rfl⟩
    go_wp2
    go_ret3
    exact ⟨_, _, by rw [HR.out]; rfl, by rw [HR.out]; exact Own.nil _ _ _, by rw [HR.out]; exact Own.nil _ _ _, .inl rfl, Below.refl _ _⟩
  have hnx := vld_norm hx hvx
  have hny := vld_norm hy hvy
  by_cases hy0 : ys = []
  · have HR := Lib.hid (show divRes xs ys = ([], [], 1) by rw [divRes, if_pos ⟨hvx, hvy⟩, if_pos hy0])
    have hb : ((ys.length : Int) == 0) = true := by rw [hy0]; rfl
    rw [hvx] at cV
    rw [hvy] at cU
    have CV := Lib.hid cV
    have CU := Lib.hid cU
    clear cV cU hvx hvy hy0
    go_enter Tryz.func44, Tryz.ntmps44
    go_wp2_with fail
    refine (CV.out _ hra).mono ?_
    rintro e w' ⟨rfl, rfl⟩
    go_wp2_with fail
    refine (CU.out _ hrb).mono ?_
    rintro e w' ⟨rfl, rfl⟩
    go_wp2
    go_ret3
    exact ⟨_, _, by rw [HR.out]; rfl, by rw [HR.out]; exact Own.nil _ _ _, by rw [HR.out]; exact Own.nil _ _ _, .inl rfl, Below.refl _ _⟩
  have hyl : 1 ≤ ys.length := List.length_pos_iff.2 hy0
  have hb : ((ys.length : Int) == 0) = false := by simp; exact hy0
  have HR := Lib.hid (show divRes xs ys = (dig B32 (vl B32 xs / vl B32 ys), dig B32 (vl B32 xs % vl B32 ys), 0) by rw [divRes, if_pos ⟨hvx, hvy⟩, if_neg hy0])
  have hyp := vl_pos hny.2 hy0
  have cC := cmp_any A A' ca cb xs ys w hnx hny (by omega) (by omega) hra hrb
  rw [hvx] at cV
  rw [hvy] at cU
  have CV := Lib.hid cV
  have CU := Lib.hid cU
  clear cV cU hvx hvy
  by_cases hlt : vl B32 xs < vl B32 ys
  · rw [cmpZ_lt hlt] at cC
    have hd : vl B32 xs / vl B32 ys = 0 := Nat.div_eq_of_lt hlt
    have hm : vl B32 xs % vl B32 ys = vl B32 xs := Nat.mod_eq_of_lt hlt
    rw [hd, hm, dig_zero, natres_fix hnx] at HR
    have CC := Lib.hid cC
    clear cC hd hm hlt hyp
    go_enter Tryz.func44, Tryz.ntmps44
    go_wp2_with fail
    refine (CV.out _ hra).mono ?_
    rintro e w' ⟨rfl, rfl⟩
    go_wp2_with fail
    refine (CU.out _ hrb).mono ?_
    rintro e w' ⟨rfl, rfl⟩
    go_wp2_with fail
    refine CC.out.mono ?_
    rintro e w' ⟨rfl, nd, rfl⟩
    have cF := fresh_any A ca xs (w.drewN nd) (by omega) (hra.below (below_drewN' (Below.refl _ _) nd)) hA
    have CF := Lib.hid cF
    clear cF CC
    go_wp2_with fail
    refine CF.out.mono ?_
    rintro e w2 ⟨v, rfl, hO, hB⟩
    have HO := Lib.hid hO
    clear hO
    go_wp2
    go_ret3
    exact ⟨_, _, by rw [HR.out]; rfl, by rw [HR.out]; exact Own.nil _ _ _, by rw [HR.out]; exact HO.out, .inl rfl, (below_drewN' (Below.refl _ _) nd).trans hB⟩
  have hcz : ¬ cmpZ (vl B32 xs) (vl B32 ys) < 0 := by unfold cmpZ; split <;> omega
  obtain ⟨z, hz⟩ : ∃ z, cmpZ (vl B32 xs) (vl B32 ys) = z := ⟨_, rfl⟩
  rw [hz] at cC hcz
  have CC := Lib.hid cC
  have hxl : ys.length ≤ xs.length := by
    rcases Nat.lt_or_ge xs.length ys.length with h | h
    · exact absurd (norm_len_lt (by decide) hnx.1 hny.2 h) hlt
    · exact h
  clear cC hz
  by_cases hy1 : ys.length = 1
  · obtain ⟨d, hd⟩ : ∃ d, ys = [d] := List.length_eq_one_iff.1 hy1
    have hb1 : ((ys.length : Int) == 1) = true := by rw [hy1]; rfl
    have hdl : d < 4294967296 := by rw [hd] at hy; exact lim_one.1 hy
    have hd0 : 0 < d := by rw [hd, vl_one] at hyp; exact hyp
    obtain ⟨g', o', rfl, hcd⟩ := hrb.at_ hy0
    have hc0 := hcd 0 (by omega)
    have hvd : vl B32 ys = d := by rw [hd, vl_one]
    rw [hvd] at HR
    have hg0 : ys[0] = d := by simp [hd]
    rw [hg0] at hc0
    have hlb := World.block_lt_of_cell? w _ hc0
    have h01 : (0 : Int) < (ys.length : Int) := by omega
    clear hcd hg0 hvd hd hy1 hyp hlt
    go_enter Tryz.func44, Tryz.ntmps44
    go_wp2_with fail
    refine (CV.out _ hra).mono ?_
    rintro e w' ⟨rfl, rfl⟩
    go_wp2_with fail
    refine (CU.out _ hrb).mono ?_
    rintro e w' ⟨rfl, rfl⟩
    go_wp2_with fail
    refine CC.out.mono ?_
    rintro e w' ⟨rfl, nd, rfl⟩
    have cF := fresh_any A ca xs (w.drewN nd) (by omega) (hra.below (below_drewN' (Below.refl _ _) nd)) hA
    have CF := Lib.hid cF
    clear cF CC
    go_wp2_with fail
    refine CF.out.mono ?_
    rintro e w2 ⟨v, rfl, hO, hB⟩
    obtain ⟨g, cap, rfl, hgB, hcap⟩ := hO.form (by omega)
    obtain ⟨R, hAt, hR⟩ := at_of_own hO
    have cD := divLimb_any g 0 cap d 74 [] R xs w2 hAt rfl hx (by omega) hd0 hdl
    have CD := Lib.hid cD
    have HRR := Lib.hid hR
    have hB0 : Below w.heap.size w w2 := (below_drewN' (Below.refl _ _) nd).trans hB
    have hc2 : w2.cell? ⟨g', o', none⟩ = some (.int .u32 (d : Nat)) := (hB0.cell hlb).trans hc0
    clear cD CF hO hAt hR hB
    go_wp2_with fail
    refine CD.out.mono ?_
    rintro e w3 ⟨⟨left, cur, hA3, hD3, rfl⟩, hG3⟩
    obtain ⟨e1, e2, e3, e4⟩ := one_div hD3
    have hB3 : Below w.heap.size w w3 := grown_below hB0 hG3 hB0.size hgB
    have hO3 := own_of_at (B := w.heap.size) (cap := cap) hA3 hgB (by rw [e4]; exact HRR.out) hcap.2
    rw [e4] at hO3
    have cT := trim_own _ _ cur w3 e3 (by omega) hO3
    rw [e1] at cT
    have CT := Lib.hid cT
    have hleft : left < 4294967296 := by have := hD3.2.2; omega
    have E2 := Lib.hid e2
    clear hA3 hD3 hG3 e1 e2 e3 e4 cT hO3 CD hc2 hB0
    go_wp2_with fail
    refine CT.out.mono ?_
    rintro e w' ⟨⟨v', rfl, hO4, hbl⟩, rfl⟩
    have cM := from_small left w3 hleft
    have CM := Lib.hid cM
    have HO4 := Lib.hid hO4
    have HBL := Lib.hid hbl
    clear cM hO4 hbl CT
    go_wp2_with fail
    refine CM.out.mono ?_
    rintro e w5 ⟨v2, rfl, hO5, hB5⟩
    have hap := own_apart HO4.out (Nat.le_refl _) hO5
    have h4 := HO4.out.below hB5
    have h5 := hO5.mono hB3.size
    rw [E2.out] at h5
    have H4 := Lib.hid h4
    have H5 := Lib.hid h5
    have HAP := Lib.hid hap
    have hBz : Below w.heap.size w w5 := hB3.trans (hB5.mono hB3.size)
    clear hap h4 h5 hO5 hB5 CM
    go_wp2
    go_ret3
    exact ⟨_, _, by rw [HR.out]; rfl, by rw [HR.out]; exact H4.out, by rw [HR.out]; exact H5.out, HAP.out, hBz⟩
  · have hb1 : ((ys.length : Int) == 1) = false := by rw [beq_eq_false_iff_ne]; omega
    have hy2 : 2 ≤ ys.length := by omega
    clear hlt hyp hy1
    go_enter Tryz.func44, Tryz.ntmps44
    go_wp2_with fail
    refine (CV.out _ hra).mono ?_
    rintro e w' ⟨rfl, rfl⟩
    go_wp2_with fail
    refine (CU.out _ hrb).mono ?_
    rintro e w' ⟨rfl, rfl⟩
    go_wp2_with fail
    refine CC.out.mono ?_
    rintro e w' ⟨rfl, nd, rfl⟩
    have hBn := below_drewN' (Below.refl w.heap.size w) nd
    have cL := divLong_any A A' ca cb xs ys (w.drewN nd) hx hny hy2 hxl hxn (hra.below hBn) (hrb.below hBn)
    have CL := Lib.hid cL
    clear cL CC
    go_wp2_with fail
    refine CL.out.mono ?_
    rintro e w3 ⟨v, v', qs, rs, rfl, hq, hr, lq, lr, eq, er, nq, nr, hap, hB3⟩
    have cT := trim_own _ _ qs w3 lq (by omega) hq
    have cS := trim_own _ _ rs w3 lr (by omega) hr
    rw [eq] at cT
    rw [er] at cS
    have CT := Lib.hid cT
    have CS := Lib.hid cS
    have HAP := Lib.hid hap
    clear cT cS hq hr lq lr eq er nq nr hap CL
    go_wp2_with fail
    refine CT.out.mono ?_
    rintro e w' ⟨⟨v2, rfl, hO4, hbl⟩, rfl⟩
    have HO4 := Lib.hid hO4
    have HBL := Lib.hid hbl
    clear hO4 hbl
    go_wp2_with fail
    refine CS.out.mono ?_
    rintro e w' ⟨⟨v3, rfl, hO5, hbl⟩, rfl⟩
    have HO5 := Lib.hid hO5
    have hap2 := HAP.out
    rw [← HBL.out, ← hbl] at hap2
    have HAP2 := Lib.hid hap2
    clear hO5 hbl hap2
    go_wp2
    go_ret3
    exact ⟨_, _, by rw [HR.out]; rfl, by rw [HR.out]; exact HO4.out, by rw [HR.out]; exact HO5.out, .inr HAP2.out, hBn.trans hB3⟩
end Go.Proofs.YtkjdmjglpbnmoaaGreatDoor

namespace Go.Proofs.YtkjdmjglpbnmoaaGreatDoor
open Go.RowKit Go.Lib

/-- Digits as bytes. -/
def d8 (ds : List Nat) : List Nat := ds.map fun d => 48 + d
theorem d8_len (ds : List Nat) : (d8 ds).length = ds.length := List.length_map _
theorem d8_snoc (ds : List Nat) (d : Nat) : d8 (ds ++ [d]) = d8 ds ++ [48 + d] := by simp [d8]
def lenOf : Value → Nat | .slice _ n _ => n | _ => 0
/-- Rows of different elements lie in different blocks. -/
theorem own_types {κ κ' : IntKind} {w : World} {B B' : Nat} {t t' : TypeId} {v v' : Value} {xs ys : List Nat} (h : Own κ w B t v xs) (h' : Own κ' w B' t' v' ys) (hne : t ≠ t') : v.ownBlock = none ∨ v.ownBlock ≠ v'.ownBlock := by
  rcases h.2 with ⟨rfl, _⟩ | ⟨g, cap, cur, rfl, _, hg, _⟩
  · exact .inl rfl
  · refine .inr fun e => ?_
    rcases h'.2 with ⟨rfl, _⟩ | ⟨g', cap', cur', rfl, _, hg', _⟩
    · cases e
    · have e2 : g = g' := Option.some.inj e
      subst e2
      rw [hg] at hg'
      cases hg'
      exact hne rfl
/-- What Text answers. -/
noncomputable def textRes (xs : List Nat) : List UInt8 × Int := if vld xs = true then (decs (vl B32 xs), 0) else ([], 30)
/-- The number of digits that have come. -/
theorem text_len {xs : List Nat} {n r : Nat} (hx : Lim B32 xs) (hr : 0 < r) (h : 10 ^ n * r ≤ vl B32 xs) : n < 10 * xs.length := by
  have h1 := vl_lt hx
  have h2 : B32 ^ xs.length ≤ (10 ^ 10) ^ xs.length := Nat.pow_le_pow_left (by decide) _
  rw [← Nat.pow_mul] at h2
  have h3 : 10 ^ n * 1 ≤ 10 ^ n * r := Nat.mul_le_mul_left _ hr
  have h4 : 10 ^ n < 10 ^ (10 * xs.length) := by omega
  exact (Nat.pow_lt_pow_iff_right (by omega)).1 h4
theorem rev_bytes {ds : List Nat} (h : Lim 10 ds) : nums .u8 (d8 ds).reverse = (ds.reverse.map db).map fun x => Value.int .u8 x.toNat := by
  unfold nums d8
  rw [← List.map_reverse, List.map_map, List.map_map]
  apply List.map_congr_left
  intro d hd
  have := h d (List.mem_reverse.1 hd)
  show Value.int .u8 ((48 + d : Nat) : Int) = Value.int .u8 ((db d).toNat : Int)
  rw [db_toNat this]
theorem conv_digits (W : World) (B : Nat) (v : Value) (l : List UInt8) (hown : W.ownsRow B 5 1 v l.length (l.map fun x => Value.int .u8 x.toNat)) :
    (convert 94 9 v).run Tryz.prog W = .ok (.string ⟨l.toArray⟩) W := by
  rcases hown.2 with ⟨rfl, h0⟩ | ⟨g, cap, cur, rfl, _⟩
  · have : l = [] := List.eq_nil_of_length_eq_zero h0
    subst this
    exact run_convert_nil_bytes W 94 9 5 0 Tryz.underlying94 Tryz.underlying5 Tryz.underlying9
  · refine run_convert_bytes_back (P := Tryz.prog) W 94 9 5 ⟨g, 0, none⟩ cap l Tryz.underlying94 Tryz.underlying5 Tryz.underlying9 (fun j hj => ?_)
    exact hown.cells (g := g) rfl j _ (by simp [hj])
/-- One digit more. -/
theorem digit_more {ds : List Nat} {p M : Nat} (h : vl 10 ds + 10 ^ ds.length * p = M) : vl 10 (ds ++ [p % 10]) + 10 ^ (ds ++ [p % 10]).length * (p / 10) = M := by
  rw [vl_snoc, List.length_append, List.length_singleton, Nat.pow_succ, ← h]
  have := digit_step (B := 10) (P := 10 ^ ds.length) (z := p)
  omega

set_option maxRecDepth 100000 in
set_option maxHeartbeats 4000000 in
theorem text_any (A : Option Addr) (ca : Nat) (xs : List Nat) (w : World) (hx : Lim B32 xs) (hxn : xs.length ≤ 1000) (hA : A = none → ca = 0) (hra : Rd .u32 w A xs) :
    Calls Tryz.prog 55 #[.slice A xs.length ca] w fun e w' => e = .returned (.tuple #[.string ⟨(textRes xs).1.toArray⟩, .int .i64 (textRes xs).2]) ∧ Below w.heap.size w w' := by
  have cV := valid_any A ca xs w (by omega) hx hra
  by_cases hvx : vld xs = true
  case neg =>
    have hvf : vld xs = false := by simpa using hvx
    have HR := Lib.hid (show textRes xs = ([], 30) by rw [textRes, if_neg hvx])
    rw [hvf] at cV
    have CV := Lib.hid cV
    clear cV hvx hvf
    go_enter Tryz.func55, Tryz.ntmps55
    go_wp2_with fail
    refine CV.out.mono ?_
    rintro e w' ⟨rfl, rfl⟩
    go_wp2
    go_ret2
    exact ⟨by rw [HR.out]; rfl, Below.refl _ _⟩
  have hnx := vld_norm hx hvx
  have HR := Lib.hid (show textRes xs = (decs (vl B32 xs), 0) by rw [textRes, if_pos hvx])
  rw [hvx] at cV
  have CV := Lib.hid cV
  clear cV hvx
  by_cases hx0 : xs = []
  · have hb : ((xs.length : Int) == 0) = true := by rw [hx0]; rfl
    have HD := Lib.hid (show decs (vl B32 xs) = [48] by rw [hx0]; rfl)
    clear hx0
    go_enter Tryz.func55, Tryz.ntmps55
    go_wp2_with fail
    refine CV.out.mono ?_
    rintro e w' ⟨rfl, rfl⟩
    go_wp2
    go_ret2
    exact ⟨by rw [HR.out, HD.out]; rfl, Below.refl _ _⟩
  obtain ⟨i0, hi, hz0, hz1, hz2⟩ := info_parts info_u8
  have hb : ((xs.length : Int) == 0) = false := by rw [beq_eq_false_iff_ne]; have := List.length_pos_iff.2 hx0; omega
  have hpos := vl_pos hnx.2 hx0
  have cF := fresh_any A ca xs w (by omega) hra hA
  have CF := Lib.hid cF
  clear cF hx0
  go_enter Tryz.func55, Tryz.ntmps55
  go_wp2_with fail
  refine CV.out.mono ?_
  rintro e w' ⟨rfl, rfl⟩
  go_wp2_with fail
  refine CF.out.mono ?_
  rintro e w1 ⟨v, rfl, hO, hB⟩
  rw [← natres_fix hnx] at hO
  clear CF CV
  go_wp2
  go_loopw [4, 5] (fun a b wr => ∃ (ds : List Nat) (r : Nat), Own .u8 wr w.heap.size 5 a (d8 ds) ∧ Own .u32 wr w.heap.size 74 b (dig B32 r) ∧ Lim 10 ds ∧ vl 10 ds + 10 ^ ds.length * r = vl B32 xs ∧ ds.length ≤ 10009 ∧ Below w.heap.size w wr) (fun a _ _ => 20000 - lenOf a)
  case atStart => exact ⟨[], vl B32 xs, Own.nil _ _ _, hO, lim_nil _, by simp [vl], Nat.zero_le _, hB⟩
  case round =>
    clear hO hB
    obtain ⟨ds, r, hO4, hO5, hL, hv, hlen, hB⟩ := hrel
    obtain ⟨A4, cap4, rfl, hc4⟩ := hO4.slice
    by_cases hr0 : r = 0
    · subst hr0
      have hv2 : vl 10 ds = vl B32 xs := by rw [← hv]; simp
      have hdn : 0 < ds.length := by
        rcases Nat.eq_zero_or_pos ds.length with h | h
        · have : ds = [] := List.eq_nil_of_length_eq_zero h
          rw [this] at hv2
          rw [← hv2] at hpos
          exact absurd hpos (by simp [vl])
        · exact h
      obtain ⟨g4, rfl, hg4⟩ := hO4.addr (by rw [d8_len]; exact hdn)
      obtain ⟨A5, cap5, rfl, _⟩ := hO5.slice
      have cR := reverse_any g4 (d8 ds).length cap4 w.heap.size (d8 ds) wr rfl (by rw [d8_len]; omega) hO4 hg4
      have CR := Lib.hid cR
      have HDP := Lib.hid (decs_pv hL (by rw [hv2]; omega))
      have HDW := Lib.hid (dropWhile_db (l := ds.reverse) (fun x h => hL x (List.mem_reverse.1 h)))
      have HV2 := Lib.hid hv2
      have HLL := Lib.hid hL
      clear cR hv hv2 hL hO4 hO5
      go_wp2_with fail
      refine CR.out.mono ?_
      rintro e w2 ⟨rfl, hO6, hB2⟩
      have hB3 := hB.trans hB2
      have hl6 : (d8 ds).reverse.length = (ds.reverse.map db).length := by rw [List.length_reverse, d8_len, List.length_map, List.length_reverse]
      have hl7 : (d8 ds).length = (ds.reverse.map db).length := by rw [d8_len, List.length_map, List.length_reverse]
      have hrow : w2.ownsRow w.heap.size 5 1 (.slice (some ⟨g4, 0, none⟩) (d8 ds).length cap4) (ds.reverse.map db).length ((ds.reverse.map db).map fun x => Value.int .u8 x.toNat) := by
        have := hO6.row hl6
        rwa [rev_bytes HLL.out] at this
      have hE : (⟨(Lib.trimLeftB (ds.reverse.map db) 48).toArray⟩ : ByteArray) = ⟨(decs (vl B32 xs)).toArray⟩ := by rw [← HV2.out, HDP.out, ← HDW.out]; rfl
      obtain ⟨bl, hbl⟩ : ∃ bl, ds.reverse.map db = bl := ⟨_, rfl⟩
      rw [hbl] at hrow hE
      have hcv := conv_digits w2 w.heap.size _ _ hrow
      have cT := Tryz.strings_TrimLeft_one ⟨bl.toArray⟩ 48 (by decide) w2
      have CT := Lib.hid cT
      have HE := Lib.hid hE
      clear hO6 hB2 hB CR hrow cT hl6 hl7 hE hbl
      go_wp2_with fail
      refine CT.out.mono ?_
      rintro e w' ⟨rfl, rfl⟩
      clear CT hcv
      have hE2 := HE.out
      rw [hE2]
      clear hE2
      go_wp2
      go_ret2
      exact ⟨by rw [HR.out]; rfl, hB3⟩
    · have hrp : 0 < r := Nat.pos_of_ne_zero hr0
      have hl := text_len hx hrp (by omega : 10 ^ ds.length * r ≤ vl B32 xs)
      have hdl : 0 < (dig B32 r).length := by
        rcases Nat.eq_zero_or_pos (dig B32 r).length with h | h
        · exact absurd (dig_nil (by decide) (List.eq_nil_of_length_eq_zero h)) hr0
        · exact h
      have hdl2 : (dig B32 r).length ≤ 1000 := by
        have h0 : (dig B32 r).length ≤ xs.length := by
          rw [dig_len_le (by decide)]
          have h1 := vl_lt hx
          have h3 : 1 * r ≤ 10 ^ ds.length * r := Nat.mul_le_mul_right _ (Nat.pow_pos (by omega))
          omega
        omega
      obtain ⟨g5, cap5, rfl, hg5, hc5⟩ := hO5.form hdl
      obtain ⟨R, hAt, hR⟩ := at_of_own hO5
      have hne := own_types hO4 hO5 (by decide)
      have cD := divLimb_any g5 0 cap5 1000000000 74 [] R (dig B32 r) wr hAt rfl (dig_norm (by decide) r).1 (by omega) (by omega) (by omega)
      have CD := Lib.hid cD
      have HRR := Lib.hid hR
      have HV := Lib.hid hv
      have HO4 := Lib.hid hO4
      have HNE := Lib.hid hne
      have hdp : (0 : Int) < ((dig B32 r).length : Int) := by omega
      clear cD hO4 hO5 hAt hR hv hne hlen
      go_wp2_with fail
      refine CD.out.mono ?_
      rintro e w3 ⟨⟨left, cur, hA3, hD3, rfl⟩, hG3⟩
      obtain ⟨e1, e2, e3, e4⟩ := one_div hD3
      rw [dig_vl (by decide)] at e1 e2
      have hB3 : Below w.heap.size w w3 := grown_below hB hG3 hB.size hg5
      have hO3 := own_of_at (B := w.heap.size) (cap := cap5) hA3 hg5 (by rw [e4]; exact HRR.out) hc5.2
      have hO43 : Own .u8 w3 w.heap.size 5 (.slice A4 (d8 ds).length cap4) (d8 ds) := HO4.out.kept hG3 (HNE.out.imp_right fun h => by simpa [Value.ownBlock] using h)
      have hleft : left < 1000000000 := hD3.2.2
      have E1 := Lib.hid e1
      have E2 := Lib.hid e2
      have E4 := Lib.hid e4
      rw [e4] at hO3
      clear hA3 hD3 hG3 e1 e2 e4 CD hB
      go_wp2
      obtain ⟨wo, rfl⟩ : ∃ wo : World, wo = w3 := ⟨w3, rfl⟩
      go_loopw [4, 6, 22] (fun a p i wi => ∃ (k q : Nat) (es : List Nat), k ≤ 9 ∧ i = .int .i64 k ∧ p = .int .u32 q ∧ q < 10 ^ (9 - k) ∧ es.length = ds.length + k ∧ Lim 10 es ∧ vl 10 es + 10 ^ es.length * q = vl 10 ds + 10 ^ ds.length * left ∧ Own .u8 wi w.heap.size 5 a (d8 es) ∧ Own .u32 wi w.heap.size 74 (.slice (some ⟨g5, 0, none⟩) (dig B32 r).length cap5) cur ∧ Below w.heap.size w wi) (fun _ _ i _ => 9 - (RowKit.intOf i).toNat)
      case atStart => exact ⟨0, left, ds, by omega, rfl, rfl, hleft, rfl, hL, rfl, hO43, hO3, hB3⟩
      case round =>
        clear hO43 hO3 hB3
        obtain ⟨k, q, es, hk, rfl, rfl, hq, hel, hLe, hve, hOa, hOb, hBi⟩ := hrel
        obtain ⟨Aa, capa, rfl, hca⟩ := hOa.slice
        by_cases hlt : k < 9
        · have hmore := digit_more hve
          have hq2 : q / 10 < 10 ^ (9 - (k + 1)) := by
            apply Nat.div_lt_of_lt_mul
            rw [Nat.mul_comm, ← Nat.pow_succ, show (9 - (k + 1)).succ = 9 - k by omega]
            exact hq
          have hqb : q < 1000000000 := Nat.lt_of_lt_of_le hq (pow10_le9 (by omega))
          have hown := hOa.row (n := es.length) (d8_len es)
          have hell := d8_len es
          have HQ2 := Lib.hid hq2
          have HMORE := Lib.hid hmore
          have HEL := Lib.hid hel
          have hne := own_types hOa hOb (by decide)
          have hsz := hBi.size
          have hes : es.length ≤ 20000 := by omega
          have hlim : Lim 10 (es ++ [q % 10]) := lim_append.2 ⟨hLe, lim_one.2 (by omega)⟩
          rw [d8_len]
          rw [d8_len] at hown hca hne
          have HNE := Lib.hid hne
          have hqi : IntKind.u8.wrap ((q : Int) % 10) = (q : Int) % 10 := IntWalk.u8_in _ (by omega)
          have HOB := Lib.hid hOb
          clear hmore hq2 hq hell hel hve hLe hne hOa hOb
          go_wp2_with (at_builtin; refine wpList_append_own _ rfl _ _ 94 rfl w.heap.size 5 i0 (.int .u8 0) 1 1 Tryz.underlying94 hi hz0 hz1 hz2 rfl (by decide) _ _ _ rfl (hown.alloc _) ⟨wr.heap.size, 0, none⟩ 1 1 [.int .u8 ((48 + q % 10 : Nat) : Int)] rfl rfl (cell_one_new _ _ _) ?c2 ?c3 ?c4 ?c5 ?_)
          case c2 => simp [Value.oneCell']
          case c3 => unfold maxLen; omega
          case c4 => omega
          case c5 => first | omega | (simp; omega)
          intro v' w4 hown' hgrow _
          have hB4 : Below w.heap.size w w4 := (hBi.alloc hsz _).grown hgrow (by simp; omega) (fun z e => (hown.lt z e).1)
          have hOb4 := (HOB.out.alloc (.cells #[.int .u8 ((48 + q % 10 : Nat) : Int)] 5)).kept hgrow (HNE.out.elim (fun h => .inr (by rw [h]; simp [Value.ownBlock])) (fun h => .inr (Ne.symm h)))
          have hOa4 := Own.snoc hown' (d8_len es).symm
          rw [← d8_snoc] at hOa4
          have HO1 := Lib.hid hOa4
          have HO2 := Lib.hid hOb4
          clear hown hown' hgrow hOa4 hOb4 hqi
          go_wp2
          go_roundw
          case rel => exact ⟨k + 1, q / 10, es ++ [q % 10], by omega, by go_num, vint (by omega), HQ2.out, by rw [List.length_append, HEL.out]; rfl, hlim, HMORE.out, HO1.out, HO2.out, hB4⟩
          case measure => simp [RowKit.intOf]; omega
        · obtain rfl : k = 9 := by omega
          obtain rfl : q = 0 := by simpa using hq
          rw [Nat.mul_zero, Nat.add_zero] at hve
          have hvn : vl 10 es + 10 ^ es.length * (r / 1000000000) = vl B32 xs := by
            rw [hve, hel, Nat.pow_add, E2.out, ← HV.out]
            have := Nat.mod_add_div r 1000000000
            have h2 := congrArg (10 ^ ds.length * ·) this
            simp only [Nat.mul_add, ← Nat.mul_assoc] at h2
            rw [show (10 : Nat) ^ 9 = 1000000000 from rfl]
            omega
          have cT := trim_own _ _ cur wr e3 (by rw [E4.out]; omega) hOb
          rw [E1.out] at cT
          have CT := Lib.hid cT
          have HVN := Lib.hid hvn
          have HOA := Lib.hid hOa
          have hel2 : es.length ≤ 10009 := by omega
          have hgr : ds.length < es.length := by omega
          rw [d8_len]
          rw [d8_len] at HOA
          clear cT hvn hOb hel hve hq hOa
          go_wp2_with fail
          refine CT.out.mono ?_
          rintro e w' ⟨⟨v', rfl, hO7, _⟩, rfl⟩
          have HO7 := Lib.hid hO7
          clear hO7 CT
          go_wp2
          go_roundw
          case rel => exact ⟨es, r / 1000000000, HOA.out, HO7.out, hLe, HVN.out, hel2, hBi⟩
          case measure =>
            show 20000 - es.length < 20000 - (d8 ds).length
            rw [d8_len]; omega
end Go.Proofs.YtkjdmjglpbnmoaaGreatDoor
