/- Plain: decimal texts of numbers. -/
import Derived.Test.YtflnackpkcldjaaDoorNatK
namespace Go.Proofs.YtflnackpkcldjaaDoor

/-- The number that bytes of decimal digits write, the highest first. -/
def pv : List UInt8 → Nat := fun l => l.foldl (fun a c => a * 10 + (c.toNat - 48)) 0
theorem pv_foldl (l : List UInt8) : ∀ a, l.foldl (fun a c => a * 10 + (c.toNat - 48)) a = a * 10 ^ l.length + pv l := by
  induction l with
  | nil => intro a; simp [pv]
  | cons c l ih =>
    intro a
    have h1 := ih (a * 10 + (c.toNat - 48))
    have h2 := ih (0 * 10 + (c.toNat - 48))
    simp only [List.foldl_cons, List.length_cons, pv] at h1 h2 ⊢
    rw [h1, h2, Nat.pow_succ]
    simp only [Nat.add_mul, Nat.mul_assoc, Nat.mul_comm 10]
    omega
theorem pv_append (l m : List UInt8) : pv (l ++ m) = pv l * 10 ^ m.length + pv m := by
  unfold pv
  rw [List.foldl_append, pv_foldl]
  rfl
theorem pv_nil : pv [] = 0 := rfl
theorem pv_one (c : UInt8) : pv [c] = c.toNat - 48 := by simp [pv]
theorem pv_snoc (l : List UInt8) (c : UInt8) : pv (l ++ [c]) = pv l * 10 + (c.toNat - 48) := by rw [pv_append, pv_one]; simp
/-- Decimal digits, every one. -/
def Dec (l : List UInt8) : Prop := ∀ c ∈ l, 48 ≤ c.toNat ∧ c.toNat ≤ 57
theorem dec_append {l m : List UInt8} : Dec (l ++ m) ↔ Dec l ∧ Dec m := by
  unfold Dec
  constructor
  · exact fun h => ⟨fun x hx => h x (List.mem_append_left _ hx), fun x hx => h x (List.mem_append_right _ hx)⟩
  · rintro ⟨h1, h2⟩ x hx
    rcases List.mem_append.1 hx with h | h
    · exact h1 x h
    · exact h2 x h
theorem dec_take {l : List UInt8} (h : Dec l) (k : Nat) : Dec (l.take k) := fun x hx => h x (List.mem_of_mem_take hx)
theorem dec_drop {l : List UInt8} (h : Dec l) (k : Nat) : Dec (l.drop k) := fun x hx => h x (List.mem_of_mem_drop hx)
theorem pv_cons (c : UInt8) (l : List UInt8) : pv (c :: l) = (c.toNat - 48) * 10 ^ l.length + pv l := by
  have := pv_append [c] l
  rwa [pv_one] at this
theorem pv_lt {l : List UInt8} (h : Dec l) : pv l < 10 ^ l.length := by
  induction l with
  | nil => simp [pv]
  | cons c l ih =>
    have h3 := ih (fun x hx => h x (List.mem_cons_of_mem _ hx))
    have h4 := h c List.mem_cons_self
    rw [pv_cons, List.length_cons, Nat.pow_succ]
    have : (c.toNat - 48) * 10 ^ l.length ≤ 9 * 10 ^ l.length := Nat.mul_le_mul_right _ (by omega)
    omega

/-- A digit as a byte. -/
def db (d : Nat) : UInt8 := UInt8.ofNat (48 + d)
theorem db_toNat {d : Nat} (h : d < 10) : (db d).toNat = 48 + d := by
  unfold db
  rw [UInt8.toNat_ofNat']
  omega
/-- A number's decimal text. -/
def decs (n : Nat) : List UInt8 := if n = 0 then [48] else (dig 10 n).reverse.map db
theorem decs_zero : decs 0 = [48] := rfl
/-- The text of digits, the lowest first, with noughts at the top. -/
theorem decs_of {l : List Nat} {m : Nat} (hl : Lim 10 l) (hn : vl 10 l ≠ 0) (hm : m ≤ l.length) (h0 : ∀ j (_ : m ≤ j) (hj : j < l.length), l[j] = 0) (ht : m = 0 ∨ ∃ h : m - 1 < l.length, l[m - 1] ≠ 0) :
    decs (vl 10 l) = (l.reverse.drop (l.length - m)).map db := by
  have h := (trim_take (B := 10) (by decide) hl hm h0 ht).1
  rw [decs, if_neg hn, h, List.drop_reverse, show l.length - (l.length - m) = m by omega]
/-- Every text of digits is the decimal text of its number, noughts ahead taken away. -/
theorem decs_pv {l : List Nat} (hl : Lim 10 l) (hn : vl 10 l ≠ 0) : decs (vl 10 l) = (l.reverse.dropWhile (· == 0)).map db := by
  have hn2 : dig 10 (vl 10 l) = (l.reverse.dropWhile (· == 0)).reverse := by
    have hsplit : l = (l.reverse.dropWhile (· == 0)).reverse ++ (l.reverse.takeWhile (· == 0)).reverse := by
      rw [← List.reverse_append, List.takeWhile_append_dropWhile, List.reverse_reverse]
    have hz : vl 10 (l.reverse.takeWhile (· == 0)).reverse = 0 := by
      have : (l.reverse.takeWhile (· == 0)).reverse = List.replicate (l.reverse.takeWhile (· == 0)).reverse.length 0 := by
        rw [List.eq_replicate_iff]
        refine ⟨rfl, fun b hb => ?_⟩
        have := List.all_eq_true.1 (List.all_takeWhile (p := fun x : Nat => x == 0) (l := l.reverse)) b (List.mem_reverse.1 hb)
        simpa using this
      rw [this, vl_zeros]
    have hv : vl 10 (l.reverse.dropWhile (· == 0)).reverse = vl 10 l := by
      conv => rhs; rw [hsplit, vl_append, hz]
      simp
    refine dig_eq (by decide) ⟨?_, ?_⟩ hv
    · intro x hx
      refine hl x ?_
      rw [hsplit]
      exact List.mem_append_left _ hx
    · intro e
      rw [List.getLast?_reverse] at e
      have := List.head?_dropWhile_not (fun x : Nat => x == 0) l.reverse
      rw [e] at this
      simp at this
  rw [decs, if_neg hn, hn2, List.reverse_reverse]
theorem db_zero {d : Nat} (h : d < 10) : db d = 48 ↔ d = 0 := by
  constructor
  · intro e
    have := congrArg UInt8.toNat e
    rw [db_toNat h] at this
    simpa using this
  · rintro rfl; rfl
theorem dropWhile_db : ∀ {l : List Nat}, Lim 10 l → (l.map db).dropWhile (· == 48) = (l.dropWhile (· == 0)).map db
  | [], _ => rfl
  | x :: l, h => by
    obtain ⟨h1, h2⟩ := lim_cons.1 h
    rw [List.map_cons, List.dropWhile_cons, List.dropWhile_cons]
    by_cases hx : x = 0
    · subst hx
      simp only [BEq.rfl, if_true, show (db 0 == 48) = true by rfl]
      exact dropWhile_db h2
    · have e1 : (db x == 48) = false := by
        rw [beq_eq_false_iff_ne]; exact fun e => hx ((db_zero h1).1 e)
      have e2 : (x == 0) = false := by simpa using hx
      rw [e1, e2]
      rfl
/-- Digits, the lowest first, of a piece of the text. -/
theorem vl_digits {l : List UInt8} : vl 10 (l.map fun c => c.toNat - 48).reverse = pv l := by
  induction l with
  | nil => rfl
  | cons c l ih =>
    rw [List.map_cons, List.reverse_cons, vl_snoc, ih, pv_cons, List.length_reverse, List.length_map, Nat.mul_comm]
    omega
end Go.Proofs.YtflnackpkcldjaaDoor
