/- Contracts of layer 1: Starts, Len, Place, Sub of the definition. -/
import Derived.WalkSmall
import Derived.Test.YtaemijgfngdjlaaDoorUstrK
namespace Go.Proofs.YtaemijgfngdjlaaDoor
open Go.RowKit Go.Lib

theorem info_int : (Tryd.prog.info? 3).map (fun i => (i.zero, i.size, i.bytes)) = some (some (.int .i64 0), 1, 8) := by kernel_rfl
/-- The places of k characters. -/
def plV (s : ByteArray) (b : Bool) (k : Nat) : List Value := (List.range k).map fun i => Value.int .i64 (pl s b i)
theorem plV_succ (s : ByteArray) (b : Bool) (k : Nat) : plV s b (k + 1) = plV s b k ++ [.int .i64 (pl s b k)] := by simp [plV, List.range_succ]

set_option maxRecDepth 100000 in
set_option maxHeartbeats 1000000 in
theorem starts_any (s : ByteArray) (b : Bool) (w : World) (hs : s.size ≤ 1048576) :
    Calls Tryd.prog 16 #[.string s, .bool b] w fun e w' => ∃ v, e = .returned v ∧ w'.ownsRow w.heap.size 3 1 v (cnt s b + 1) (plV s b (cnt s b + 1)) ∧ Below w.heap.size w w' := by
  obtain ⟨i0, hi, hz0, hz1, hz2⟩ := info_parts info_int
  have hcl := cnt_le s b
  go_enter Tryd.func16, Tryd.ntmps16
  go_wp2
  go_loopw [5, 6] (fun v p wr => ∃ k, k ≤ cnt s b ∧ p = .int .i64 (pl s b k) ∧ wr.ownsRow w.heap.size 3 1 v k (plV s b k) ∧ Below w.heap.size w wr) (fun _ p _ => s.size - (RowKit.intOf p).toNat)
  case atStart => exact ⟨0, Nat.zero_le _, rfl, World.ownsRow_nil _ _ _ _, Below.refl _ _⟩
  case round =>
    obtain ⟨k, hk, rfl, hown, hB⟩ := hrel
    have hple := pl_le s b k
    have hsz := hB.size
    by_cases hlt : k < cnt s b
    · have hplt := (cnt_spec s b k).2 hlt
      have hw1 := wid_in s b _ hplt
      have cN := fun (W : World) => refNext_any s (pl s b k : Nat) b W (by omega)
      rw [nextZ_eq] at cN
      have hp1 := pl_succ s b k
      have hv1 := plV_succ s b k
      obtain ⟨C, hC⟩ : ∃ C, cod s b (pl s b k) = C := ⟨_, rfl⟩
      obtain ⟨S, hS⟩ : ∃ S, wid s b (pl s b k) = S := ⟨_, rfl⟩
      rw [hC, hS] at cN
      rw [hS] at hw1 hp1
      obtain ⟨p, hp⟩ : ∃ p, pl s b k = p := ⟨_, rfl⟩
      rw [hp] at cN hw1 hp1 hple hplt hv1
      rw [hp]
      obtain ⟨q1, q2⟩ := hw1
      clear hC hS
      have CN := Lib.hid cN; clear cN
      have HP1 := Lib.hid hp1; clear hp1
      have HV1 := Lib.hid hv1; clear hv1
      have HP := Lib.hid hp; clear hp
      go_wp2_with (at_builtin; refine wpList_append_own _ rfl _ _ 29 rfl w.heap.size 3 i0 (.int .i64 0) 1 8 Tryd.underlying29 hi hz0 hz1 hz2 rfl (by decide) _ _ _ rfl (hown.alloc _) ⟨wr.heap.size, 0, none⟩ 1 1 [.int .i64 p] rfl rfl (cell_one_new _ _ _) ?c2 ?c3 ?c4 ?c5 ?_)
      case c2 => simp [Value.oneCell']
      case c3 => unfold maxLen; omega
      case c4 => omega
      case c5 => first | omega | (simp; omega)
      intro v' w1 hown' hgrow _
      rw [← HV1.out] at hown'
      have hB1 : Below w.heap.size w w1 := (hB.alloc hsz _).grown hgrow (by simp; omega) (fun r e => (hown.lt r e).1)
      have HO := Lib.hid hown'; clear hown'
      clear hown hgrow
      go_wp2_with (go_at_call 13; refine (CN.out _).mono ?_; rintro e w' ⟨rfl, rfl⟩)
      go_roundw
      case rel => exact ⟨k + 1, by omega, by rw [HP1.out]; go_num, HO.out, hB1⟩
      case measure => simp [RowKit.intOf]; omega
    · obtain rfl : k = cnt s b := by omega
      have hpe := pl_cnt s b
      have hv1 := plV_succ s b (cnt s b)
      rw [hpe] at hv1 ⊢
      obtain ⟨n, hn⟩ : ∃ n, cnt s b = n := ⟨_, rfl⟩
      rw [hn] at hown hcl hv1
      rw [hn]
      have HN := Lib.hid hn
      clear hpe hlt hk hple hn
      have HV1 := Lib.hid hv1; clear hv1
      go_wp2_with (at_builtin; refine wpList_append_own _ rfl _ _ 29 rfl w.heap.size 3 i0 (.int .i64 0) 1 8 Tryd.underlying29 hi hz0 hz1 hz2 rfl (by decide) _ _ _ rfl (hown.alloc _) ⟨wr.heap.size, 0, none⟩ 1 1 [.int .i64 s.size] rfl rfl (cell_one_new _ _ _) ?c2 ?c3 ?c4 ?c5 ?_)
      case c2 => simp [Value.oneCell']
      case c3 => unfold maxLen; omega
      case c4 => omega
      case c5 => first | omega | (simp; omega)
      intro v' w1 hown' hgrow _
      rw [← HV1.out] at hown'
      have hB1 : Below w.heap.size w w1 := (hB.alloc hsz _).grown hgrow (by simp; omega) (fun r e => (hown.lt r e).1)
      have HO := Lib.hid hown'; clear hown'
      clear hown hgrow
      go_wp2
      go_ret
      exact ⟨v', rfl, by rw [HN.out]; exact HO.out, hB1⟩

/-- Starts, with its row laid open. -/
theorem starts_row (s : ByteArray) (b : Bool) (w : World) (hs : s.size ≤ 1048576) :
    Calls Tryd.prog 16 #[.string s, .bool b] w fun e w' => ∃ g cap, e = .returned (.slice (some ⟨g, 0, none⟩) (cnt s b + 1) cap) ∧ cnt s b + 1 ≤ cap ∧ w.heap.size ≤ g ∧ (∀ i : Nat, i ≤ cnt s b → w'.cell? ⟨g, i, none⟩ = some (.int .i64 (pl s b i))) ∧ Below w.heap.size w w' := by
  refine (starts_any s b w hs).mono ?_
  rintro e w' ⟨v, rfl, hown, hB⟩
  obtain ⟨g, cap, rfl⟩ := ownsRow_succ hown
  have hcap : cnt s b + 1 ≤ cap := by
    obtain ⟨_, ⟨h, _⟩ | ⟨g', cap', cur, hv, _, _, hc, _⟩⟩ := hown
    · cases h
    · cases hv; exact hc
  refine ⟨g, cap, rfl, hcap, (hown.lt g rfl).1, fun i hi => ?_, hB⟩
  have := hown.cells (g := g) rfl i (.int .i64 (pl s b i)) (by rw [plV, List.getElem?_map, List.getElem?_range (by omega)]; rfl)
  rw [Addr.add_lit, Nat.zero_add] at this
  exact this
set_option maxHeartbeats 400000 in
theorem refLen_any (s : ByteArray) (b : Bool) (w : World) (hs : s.size ≤ 1048576) :
    Calls Tryd.prog 21 #[.string s, .bool b] w fun e w' => e = .returned (.int .i64 (cnt s b)) ∧ Below w.heap.size w w' := by
  have cS := starts_row s b w hs
  have hcl := cnt_le s b
  obtain ⟨n, hn⟩ : ∃ n, cnt s b = n := ⟨_, rfl⟩
  rw [hn] at cS hcl ⊢
  clear hn
  have CS := Lib.hid cS; clear cS
  go_enter Tryd.func21, Tryd.ntmps21
  go_wp2_with fail
  refine CS.out.mono ?_
  rintro e w1 ⟨g, cap, rfl, _, _, hc, hB⟩
  clear hc
  go_wp2
  go_ret
  exact ⟨by simp, hB⟩
/-- The place of a number: and is there one? -/
def placeZ (s : ByteArray) (b : Bool) (n : Int) : Int × Bool := if 1 ≤ n ∧ n ≤ cnt s b + 1 then ((pl s b (n - 1).toNat : Nat), true) else (0, false)
set_option maxHeartbeats 400000 in
theorem refPlace_any (s : ByteArray) (n : Int) (b : Bool) (w : World) (hs : s.size ≤ 1048576) :
    Calls Tryd.prog 19 #[.string s, .int .i64 n, .bool b] w fun e w' => e = .returned (.tuple #[.int .i64 (placeZ s b n).1, .bool (placeZ s b n).2]) ∧ Below w.heap.size w w' := by
  have CS := Lib.hid (starts_row s b w hs)
  have hcl := cnt_le s b
  by_cases h1 : n < 1
  · rw [placeZ, if_neg (by omega)]
    go_enter Tryd.func19, Tryd.ntmps19
    go_wp2_with fail
    refine CS.out.mono ?_
    rintro e w1 ⟨g, cap, rfl, _, _, hc, hB⟩
    clear hc
    go_wp2
    go_ret2
    exact ⟨rfl, hB⟩
  by_cases h2 : (cnt s b : Int) + 1 < n
  · rw [placeZ, if_neg (by omega)]
    go_enter Tryd.func19, Tryd.ntmps19
    go_wp2_with fail
    refine CS.out.mono ?_
    rintro e w1 ⟨g, cap, rfl, _, _, hc, hB⟩
    clear hc
    go_wp2
    go_ret2
    exact ⟨rfl, hB⟩
  · rw [placeZ, if_pos (by omega)]
    obtain ⟨m, rfl⟩ : ∃ m : Nat, n = m + 1 := ⟨(n - 1).toNat, by omega⟩
    have em : ((m : Int) + 1 - 1).toNat = m := by omega
    rw [em]
    clear em
    go_enter Tryd.func19, Tryd.ntmps19
    go_wp2_with fail
    refine CS.out.mono ?_
    rintro e w1 ⟨g, cap, rfl, hcap, _, hc, hB⟩
    have hcm := hc m (by omega)
    have hpm := pl_le s b m
    clear hc
    go_wp2
    go_ret2
    exact ⟨rfl, hB⟩

/-- The part between two numbers. -/
def subB (s : ByteArray) (b : Bool) (i j : Int) : ByteArray :=
  if min j (cnt s b + 1) ≤ max i 1 then ⟨#[]⟩ else s.extract (pl s b (max i 1 - 1).toNat) (pl s b (min j (cnt s b + 1) - 1).toNat)
set_option maxRecDepth 100000 in
set_option maxHeartbeats 1000000 in
theorem refSub_any (s : ByteArray) (i j : Int) (b : Bool) (w : World) (hs : s.size ≤ 1048576) :
    Calls Tryd.prog 23 #[.string s, .int .i64 i, .int .i64 j, .bool b] w fun e w' => e = .returned (.string (subB s b i j)) ∧ Below w.heap.size w w' := by
  have CS := Lib.hid (starts_row s b w hs)
  have hcl := cnt_le s b
  unfold subB
  obtain ⟨I, hI⟩ : ∃ I, max i 1 = I := ⟨_, rfl⟩
  obtain ⟨J, hJ⟩ : ∃ J, min j (cnt s b + 1) = J := ⟨_, rfl⟩
  have hI1 : 1 ≤ I := by omega
  have hJ1 : J ≤ cnt s b + 1 := by omega
  rw [hI, hJ]
  by_cases h : J ≤ I
  · rw [if_pos h]
    go_enter Tryd.func23, Tryd.ntmps23
    go_wp2_with fail
    refine CS.out.mono ?_
    rintro e w1 ⟨g, cap, rfl, _, _, hc, hB⟩
    clear hc
    go_wp2
    go_ret
    exact ⟨rfl, hB⟩
  · rw [if_neg h]
    obtain ⟨a, ha⟩ : ∃ a : Nat, I = a + 1 := ⟨(I - 1).toNat, by omega⟩
    obtain ⟨c, hc⟩ : ∃ c : Nat, J = c + 1 := ⟨(J - 1).toNat, by omega⟩
    subst ha
    subst hc
    rw [show ((a : Int) + 1 - 1).toNat = a by omega, show ((c : Int) + 1 - 1).toNat = c by omega]
    have hm := pl_mono s b a c (by omega)
    have hpm := pl_le s b c
    go_enter Tryd.func23, Tryd.ntmps23
    go_wp2_with fail
    refine CS.out.mono ?_
    rintro e w1 ⟨g, cap, rfl, hcap, _, hc, hB⟩
    have hca := hc a (by omega)
    have hcc := hc c (by omega)
    clear hc
    go_wp2
    go_quiet (fail)
    go_wp2
    go_ret
    exact ⟨rfl, below_drewN hB _⟩
end Go.Proofs.YtaemijgfngdjlaaDoor
