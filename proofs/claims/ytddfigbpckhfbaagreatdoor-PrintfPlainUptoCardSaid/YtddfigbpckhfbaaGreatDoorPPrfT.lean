/- Contracts of layer 11's laws: how long all strings are. Plain: two formats, one behind the other. -/
import Derived.Test.YtddfigbpckhfbaaGreatDoorPPrfS
import Derived.Test.YtddfigbpckhfbaaGreatDoorQpt1
import Derived.Test.YtddfigbpckhfbaaGreatDoorQpt2
import Derived.Test.YtddfigbpckhfbaaGreatDoorQpt3
import Derived.Test.YtddfigbpckhfbaaGreatDoorQpt4
import Derived.Test.YtddfigbpckhfbaaGreatDoorQpt5
import Derived.Test.YtddfigbpckhfbaaGreatDoorQpt6
import Derived.Test.YtddfigbpckhfbaaGreatDoorQpt7
import Derived.Test.YtddfigbpckhfbaaGreatDoorQpt8
import Derived.Test.YtddfigbpckhfbaaGreatDoorQpt9
import Derived.Test.YtddfigbpckhfbaaGreatDoorQpt10
import Derived.Test.YtddfigbpckhfbaaGreatDoorQpt11
import Derived.Test.YtddfigbpckhfbaaGreatDoorQpt12
import Derived.Test.YtddfigbpckhfbaaGreatDoorQpt13
import Derived.Test.YtddfigbpckhfbaaGreatDoorQpt14
namespace Go.Proofs.YtddfigbpckhfbaaGreatDoor
open Go.RowKit Go.Lib

def sizeN (l : List OnD) : Nat := (l.map fun x => x.str.size).sum
theorem sizeN_snoc (l : List OnD) (x : OnD) : sizeN (l ++ [x]) = sizeN l + x.str.size := by
  unfold sizeN
  rw [List.map_append, List.sum_append]
  simp
theorem sizeN_mem {l : List OnD} {x : OnD} (h : x ∈ l) : x.str.size ≤ sizeN l := by
  unfold sizeN
  induction l with
  | nil => cases h
  | cons y t ih =>
    rw [List.map_cons, List.sum_cons]
    rcases List.mem_cons.1 h with rfl | h
    · omega
    · have := ih h; omega
theorem sizeN_le {l : List OnD} (h : ∀ x ∈ l, x.str.size ≤ 1048576) : sizeN l ≤ 1048576 * l.length := by
  unfold sizeN
  induction l with
  | nil => exact Nat.le_refl _
  | cons y t ih =>
    rw [List.map_cons, List.sum_cons, List.length_cons]
    have := ih (fun x hx => h x (List.mem_cons_of_mem _ hx))
    have := h y (List.mem_cons_self ..)
    omega
set_option maxRecDepth 100000 in
set_option maxHeartbeats 4000000 in
theorem psize_any (A : Option Addr) (cap : Nat) (es : List OnD) (w : World) (hl : es.length ≤ 1048576) (hR : RdO w A es) (hs : ∀ x ∈ es, x.str.size ≤ 1048576) :
    Calls Tryz.prog 25 #[.slice A es.length cap] w fun e w' => e = .returned (.int .i64 (sizeN es : Int)) ∧ Below w.heap.size w w' := by
  have HR := Lib.hid hR
  have HS := Lib.hid hs
  obtain ⟨n, hn⟩ : ∃ n, es.length = n := ⟨_, rfl⟩
  have HN := Lib.hid hn
  rw [hn] at hl ⊢
  clear hR hs hn
  go_enter Tryz.func25, Tryz.ntmps25
  go_wp2
  go_loopw [3, 8] (fun sv kv wr => ∃ k : Nat, sv = .int .i64 (sizeN (es.take k) : Int) ∧ kv = .int .i64 (k : Int) ∧ k ≤ n ∧ Below w.heap.size w wr) (fun _ kv _ => n - (RowKit.intOf kv).toNat)
  case atStart => exact ⟨0, rfl, rfl, Nat.zero_le _, Below.refl _ _⟩
  case round =>
    obtain ⟨k, rfl, rfl, hk, hB⟩ := hrel
    by_cases hlt : k < n
    · have hkl : k < es.length := by rw [HN.out]; exact hlt
      obtain ⟨b, off, hA, hcl⟩ := HR.out k hkl
      subst hA
      have hsx := HS.out _ (List.getElem_mem hkl)
      have htk : (es.take k).length = k := by rw [List.length_take]; omega
      have hle := sizeN_le (l := es.take k) (fun x hx => HS.out x (List.mem_of_mem_take hx))
      rw [htk] at hle
      have hsn : sizeN (es.take (k + 1)) = sizeN (es.take k) + es[k].str.size := by rw [List.take_succ_eq_append_getElem hkl, sizeN_snoc]
      obtain ⟨x, hx⟩ : ∃ x, es[k] = x := ⟨_, rfl⟩
      rw [hx] at hcl hsx hsn
      have hcw : ∀ i, i < 3 → wr.cell? ⟨b, off + k * 3 + i, none⟩ = x.cells[i]? := fun i hi => by
        have h1 := hcl i hi
        have h2 : x.cells[i]? = some (x.cells[i]'(by simpa [OnD.cells] using hi)) := List.getElem?_eq_getElem _
        have hl := World.block_lt_of_cell? w _ (h1.trans h2)
        exact (hB.cell (p := ⟨b, off + k * 3 + i, none⟩) hl).trans h1
      have k1 : wr.cell? ⟨b, off + k * 3, none⟩ = some (.int .i64 x.kind) := hcw 0 (by omega)
      have k2 : wr.cell? ⟨b, off + k * 3 + 1, none⟩ = some (.int .u64 x.bits) := hcw 1 (by omega)
      have k3 : wr.cell? ⟨b, off + k * 3 + 2, none⟩ = some (.string x.str) := hcw 2 (by omega)
      obtain ⟨z, hz⟩ : ∃ z, sizeN (es.take k) = z := ⟨_, rfl⟩
      rw [hz] at hle hsn ⊢
      have HSn := Lib.hid hsn
      have hB2 := hB.alloc hB.size (.cells #[.int .i64 x.kind, .int .u64 x.bits, .string x.str] 85)
      have HB2 := Lib.hid hB2
      have hwr : IntKind.i64.wrap ((z : Int) + (x.str.size : Int)) = (z : Int) + (x.str.size : Int) := by rw [IntKind.wrap_i64]; omega
      clear hcl hcw hx hsn hB2 hz
      go_wp2
      go_roundw
      case rel => exact ⟨k + 1, by rw [HSn.out]; go_num, by go_num, by omega, HB2.out⟩
      case measure => simp [RowKit.intOf]; omega
    · have hkn : k = n := by omega
      subst hkn
      rw [show es.take k = es by rw [← HN.out, List.take_length]]
      go_wp2
      go_ret
      exact ⟨rfl, hB⟩
theorem spr_err {cv : Nat → ByteArray} {by' : Bool} {S : ByteArray} : ∀ f k l o e, sprF cv by' S f k l o = .error e → e = 50 ∨ e = 3 := by
  intro f
  induction f with
  | zero => intro k l o e h; rw [sprF] at h; cases h
  | succ f ih =>
    intro k l o e h
    rw [sprF] at h
    split at h
    case isFalse => cases h
    split at h
    · split at h
      · cases h; exact Or.inl rfl
      · split at h
        · cases h; exact Or.inl rfl
        · split at h
          · cases h; exact Or.inr rfl
          · exact ih _ _ _ _ h
    · split at h
      · cases h; exact Or.inr rfl
      · exact ih _ _ _ _ h
/-- Two formats, one behind the other, where the first is written with no fewer values. -/
theorem spr_joins {cv : Nat → ByteArray} {by' : Bool} {F G : ByteArray} {l : List Cl} {n : Nat} (hn : n ≤ l.length) (hm : ∀ m, m < n → ∀ z, sprR cv by' F 0 (l.take m) [] ≠ .ok z) {a : List UInt8} {l' : List Cl} (h : sprR cv by' F 0 (l.take n) [] = .ok (a, l')) :
    (∃ e, sprR cv by' G 0 (l.drop n) [] = .error e ∧ e ≠ 0 ∧ (sprR cv by' (F ++ G) 0 l [] = .error e ∨ sprR cv by' (F ++ G) 0 l [] = .error 3)) ∨
    (∃ b l2, sprR cv by' G 0 (l.drop n) [] = .ok (b, l2) ∧ ((1024 < a.length + b.length ∧ sprR cv by' (F ++ G) 0 l [] = .error 3) ∨ (¬ 1024 < a.length + b.length ∧ sprR cv by' (F ++ G) 0 l [] = .ok (a ++ b, l2)))) := by
  obtain ⟨u, hu, hu2⟩ := spr_left F.size 0 (l.take n) [] a l' (by omega) h
  have hlt : (l.take n).length = n := by rw [List.length_take]; omega
  have hl' : l' = [] := by
    rcases l' with _ | ⟨x, t⟩
    · rfl
    · exfalso
      have hul : u.length < n := by rw [hu, List.length_append, List.length_cons] at hlt; omega
      have e : l.take u.length = u := by
        have h1 : (l.take n).take u.length = u := by rw [hu, List.take_left]
        rw [List.take_take, Nat.min_eq_left (by omega)] at h1
        exact h1
      exact hm u.length hul _ (by rw [e]; exact hu2)
  subst hl'
  have h1 := spr_first (G := G) F.size 0 (l.take n) [] a [] (l.drop n) (by omega) (Nat.zero_le _) h
  rw [List.take_append_drop, List.nil_append] at h1
  have h2 := spr_second (cv := cv) (by' := by') (F := F) (G := G) G.size 0 (l.drop n) a (by omega) (Nat.zero_le _)
  rw [Nat.add_zero] at h2
  rw [h2] at h1
  have ha : a.length ≤ 1024 := by
    unfold sprR at h
    exact spr_len _ _ _ _ _ _ h (by decide)
  have h3 := spr_room (cv := cv) (by' := by') (G := G) G.size 0 (l.drop n) a [] (by omega) (by rw [List.append_nil]; exact ha)
  rw [List.append_nil] at h3
  rw [h1]
  cases hr : sprR cv by' G 0 (l.drop n) [] with
  | error e =>
    rw [hr] at h3
    refine Or.inl ⟨e, rfl, ?_, h3⟩
    unfold sprR at hr
    rcases spr_err _ _ _ _ _ hr with rfl | rfl <;> omega
  | ok z =>
    rw [hr] at h3
    dsimp only at h3
    refine Or.inr ⟨z.1, z.2, rfl, ?_⟩
    split at h3
    · rename_i hq; exact Or.inl ⟨hq, h3⟩
    · rename_i hq; exact Or.inr ⟨hq, h3⟩
end Go.Proofs.YtddfigbpckhfbaaGreatDoor
