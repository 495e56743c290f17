/- The definition of layer 2: Parse. -/
import Derived.Test.YtflnackpkcldjaaDoorNatRh
import Derived.Test.YtflnackpkcldjaaDoorNatS
namespace Go.Proofs.YtflnackpkcldjaaDoor
open Go.RowKit Go.Lib

/-- What the definition's Parse answers. -/
noncomputable def rparRes (s : ByteArray) : List Nat := if isDec s = true then dig D4 (pv s.data.toList) else []
/-- How it ends. -/
def RParEnd (f : Bool) (zs : List Nat) (w : World) (e : Ending) (w' : World) : Prop := ∃ v, e = .returned (.tuple #[v, .bool f]) ∧ Own .i64 w' w.heap.size 3 v zs ∧ Below w.heap.size w w'
theorem pv_take_more {l : List UInt8} {m' j : Nat} (hj : j < l.length) (h : m' ≤ j) : pv ((l.drop m').take (j + 1 - m')) = pv ((l.drop m').take (j - m')) * 10 + ((l[j]).toNat - 48) := by
  have h1 : j - m' < (l.drop m').length := by rw [List.length_drop]; omega
  rw [show j + 1 - m' = (j - m') + 1 by omega, List.take_succ_eq_append_getElem h1, pv_snoc]
  have h2 : (l.drop m')[j - m'] = l[j] := by
    rw [List.getElem_drop]
    congr 1
    omega
  rw [h2]

set_option maxRecDepth 100000 in
set_option maxHeartbeats 4000000 in
theorem rparse_any (s : ByteArray) (w : World) (hs : s.size ≤ 4194304) :
    Calls Tryd.prog 25 #[.string s] w (RParEnd (isDec s) (rparRes s) w) := by
  by_cases h0 : s.size = 0
  · have HR := Lib.hid (show isDec s = false from isDec_no.2 (fun h => by omega))
    have he : s.toList = [] := by rw [Lib.toList_data]; exact ba_nil h0
    have he2 : s.toList.isEmpty = true := by rw [he]; rfl
    clear h0
    go_enter Tryd.func25, Tryd.ntmps25
    go_wp2
    go_ret2
    exact ⟨_, by rw [HR.out]; rfl, by rw [rparRes, if_neg (by rw [HR.out]; decide)]; exact Own.nil _ _ _, Below.refl _ _⟩
  obtain ⟨i0, hi, hz0, hz1, hz2⟩ := info_parts info_i64
  have he2 : s.toList.isEmpty = false := by
    rw [Lib.toList_data]
    cases h : s.data.toList with
    | nil => exact absurd (by rw [← ba_len, h]; rfl) h0
    | cons _ _ => rfl
  have he3 : ¬ s.toList = [] := by
    intro e; rw [e] at he2; cases he2
  have hpos : 0 < s.size := by omega
  clear h0
  go_enter Tryd.func25, Tryd.ntmps25
  go_wp2
  go_loop [4] (fun i => ∃ k : Nat, k ≤ s.size ∧ i = .int .i64 k ∧ Dec (s.data.toList.take k)) (fun i => s.size - (RowKit.intOf i).toNat)
  case atStart => exact ⟨0, Nat.zero_le _, rfl, fun _ h => by simp at h⟩
  case round =>
    obtain ⟨k, hk, rfl, hd⟩ := hrel
    by_cases hlt : k < s.size
    · by_cases h1 : s[k].toNat < 48
      · have HR := Lib.hid (show isDec s = false from isDec_no.2 (fun h => by have := (dec_at h.2 k hlt).1; omega))
        clear hd
        go_wp2
        go_ret2
        exact ⟨_, by rw [HR.out]; rfl, by rw [rparRes, if_neg (by rw [HR.out]; decide)]; exact Own.nil _ _ _, Below.refl _ _⟩
      · by_cases h2 : 57 < s[k].toNat
        · have HR := Lib.hid (show isDec s = false from isDec_no.2 (fun h => by have := (dec_at h.2 k hlt).2; omega))
          clear hd
          go_wp2
          go_ret2
          exact ⟨_, by rw [HR.out]; rfl, by rw [rparRes, if_neg (by rw [HR.out]; decide)]; exact Own.nil _ _ _, Below.refl _ _⟩
        · have hd2 := dec_snoc hd (show 48 ≤ s[k].toNat ∧ s[k].toNat ≤ 57 by omega)
          rw [← ba_take_snoc s k hlt] at hd2
          have HD := Lib.hid hd2
          clear hd hd2
          go_wp2
          go_round
          case rel => exact ⟨k + 1, hlt, by go_num, HD.out⟩
          case measure => simp [RowKit.intOf]; omega
    · obtain rfl : k = s.size := by omega
      rw [← ba_len, List.take_length] at hd
      have HR := Lib.hid (isDec_iff.2 ⟨hpos, hd⟩)
      have HDEC := Lib.hid hd
      clear hd he2 he3 hlt hk
      go_wp2
      go_loopw [5, 6] (fun v q wr => ∃ (m : Nat) (E : Int) (ds : List Nat), q = .int .i64 E ∧ ((0 < m ∧ E = m) ∨ (m = 0 ∧ -4 < E ∧ E ≤ 0)) ∧ m ≤ s.size ∧ ds.length ≤ s.size - m ∧ Own .i64 wr w.heap.size 3 v ds ∧ RPar s.data.toList ds m ∧ Below w.heap.size w wr) (fun _ q _ => (RowKit.intOf q).toNat)
      case atStart => exact ⟨s.size, _, [], rfl, .inl ⟨hpos, rfl⟩, Nat.le_refl _, Nat.zero_le _, Own.nil _ _ _, by have := rpar_start s.data.toList; rwa [ba_len] at this, Below.refl _ _⟩
      case round =>
        obtain ⟨m, E, ds, rfl, hE, hms, hdl, hO, hP, hB⟩ := hrel
        obtain ⟨A5, c5, rfl, _⟩ := hO.slice
        by_cases hm : 0 < m
        · obtain rfl : E = (m : Int) := by omega
          obtain ⟨m', hm'⟩ : ∃ m', m - 4 = m' := ⟨_, rfl⟩
          have hmx : max ((m : Int) - 4) 0 = (m' : Int) := by omega
          have hmi2 : (if (m : Int) - 4 < 0 then (0 : Int) else (m : Int) - 4) = (m' : Int) := by split <;> omega
          have hmi3 : (if (0 : Int) ≤ (m : Int) - 4 then (m : Int) - 4 else (0 : Int)) = (m' : Int) := by split <;> omega
          have hm4 : m' ≤ m := by omega
          have hm5 : m ≤ m' + 4 := by omega
          have HST := Lib.hid (rpar_step hP HDEC.out hm (by rw [ba_len]; exact hms) hm'.symm)
          have HM := Lib.hid hm'
          have hown := hO.row (n := ds.length) rfl
          have HOWN := Lib.hid hown
          have hsz := hB.size
          clear hP hO hE hm' hown
          go_wp2
          clear hmx hmi2 hmi3
          obtain ⟨wo, rfl⟩ : ∃ wo : World, wo = wr := ⟨wr, rfl⟩
          go_loop [7, 8] (fun a i => ∃ j : Nat, m' ≤ j ∧ j ≤ m ∧ i = .int .i64 j ∧ a = .int .i64 (pv ((s.data.toList.drop m').take (j - m')) : Nat)) (fun _ i => m - (RowKit.intOf i).toNat)
          case atStart => exact ⟨m', Nat.le_refl _, hm4, rfl, by rw [Nat.sub_self]; rfl⟩
          case round =>
            obtain ⟨j, hj1, hj2, rfl, rfl⟩ := hrel
            have hvl := pv_lt4 (dec_take (dec_drop HDEC.out m') (j - m')) (by rw [List.length_take]; omega)
            by_cases hjm : j < m
            · have hjs : j < s.size := by omega
              obtain ⟨c1, c2⟩ := dec_at HDEC.out j hjs
              have hmore := pv_take_more (l := s.data.toList) (by rw [ba_len]; exact hjs) hj1
              have hsj : s.data.toList[j]'(by rw [ba_len]; exact hjs) = s[j] := rfl
              rw [hsj] at hmore
              obtain ⟨V, hV⟩ : ∃ V, pv ((s.data.toList.drop m').take (j - m')) = V := ⟨_, rfl⟩
              rw [hV] at hvl hmore
              rw [hV]
              have HMORE := Lib.hid hmore
              clear hmore hV hsj
              go_wp2
              go_round
              case rel => exact ⟨j + 1, by omega, hjm, by go_num, by rw [HMORE.out]; exact vint (by omega)⟩
              case measure => simp [RowKit.intOf]; omega
            · obtain rfl : j = m := by omega
              obtain ⟨V, hV⟩ : ∃ V, pv ((s.data.toList.drop m').take (j - m')) = V := ⟨_, rfl⟩
              have hst := HST.out
              rw [hV] at hst hvl
              rw [hV]
              have HST2 := Lib.hid hst
              have hown := HOWN.out
              have hmm := HM.out
              have hmn : m' ≤ j - 1 := by omega
              have hE2 : ((0 < m' ∧ (j : Int) - 4 = m') ∨ (m' = 0 ∧ -4 < (j : Int) - 4 ∧ (j : Int) - 4 ≤ 0)) := by omega
              have HE2 := Lib.hid hE2
              clear hst hV hmm hE2 HST HOWN hj1 hj2 hjm
              go_wp2_with (at_builtin; refine wpList_append_own _ rfl _ _ 25 rfl w.heap.size 3 i0 (.int .i64 0) 1 8 Tryd.underlying25 hi hz0 hz1 hz2 rfl (by decide) _ _ _ rfl (hown.alloc _) ⟨wo.heap.size, 0, none⟩ 1 1 [.int .i64 (V : Nat)] rfl rfl (cell_one_new _ _ _) ?c2 ?c3 ?c4 ?c5 ?_)
              case c2 => simp [Value.oneCell']
              case c3 => unfold maxLen; omega
              case c4 => omega
              case c5 => first | omega | (simp; omega)
              intro v' w4 hown' hgrow _
              have hB4 : Below w.heap.size w w4 := (hB.alloc hsz _).grown hgrow (by simp; omega) (fun z e => (hown.lt z e).1)
              have HO1 := Lib.hid (Own.snoc hown' rfl)
              clear hown hown' hgrow
              go_wp2
              go_roundw
              case rel => exact ⟨m', _, _, rfl, HE2.out, by omega, by rw [List.length_append, List.length_singleton]; omega, HO1.out, HST2.out, hB4⟩
              case measure => simp [RowKit.intOf]; omega
        · obtain rfl : m = 0 := by omega
          have hE0 : E ≤ 0 := by omega
          have he := rpar_end hP
          have cT := rtrim_own _ _ ds wr hP.lim (by omega) hO
          rw [he] at cT
          have CT := Lib.hid cT
          clear cT hO hP he hE
          go_wp2_with fail
          refine CT.out.mono ?_
          rintro e w' ⟨⟨v', rfl, hO7⟩, rfl⟩
          have HO7 := Lib.hid hO7
          clear hO7 CT
          go_wp2
          go_ret2
          exact ⟨_, by rw [HR.out]; rfl, by rw [rparRes, if_pos HR.out]; exact HO7.out, hB⟩
end Go.Proofs.YtflnackpkcldjaaDoor
