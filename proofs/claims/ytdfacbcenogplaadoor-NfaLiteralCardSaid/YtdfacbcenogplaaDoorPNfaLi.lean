/- The walk of the law NfaLiteral. -/
import Derived.Test.YtdfacbcenogplaaDoorPNfaLa
import Derived.Test.YtdfacbcenogplaaDoorShelf
import Derived.Test.YtdfacbcenogplaaDoorPk1
import Derived.Test.YtdfacbcenogplaaDoorPk2
import Derived.Test.YtdfacbcenogplaaDoorPk3
import Derived.Test.YtdfacbcenogplaaDoorPk4
import Derived.Test.YtdfacbcenogplaaDoorPk5
import Derived.Test.YtdfacbcenogplaaDoorPk6
import Derived.Test.YtdfacbcenogplaaDoorPk7
import Derived.Test.YtdfacbcenogplaaDoorPk8
import Derived.Test.YtdfacbcenogplaaDoorPk9
import Derived.Test.YtdfacbcenogplaaDoorPk10
import Derived.Test.YtdfacbcenogplaaDoorPk11
import Derived.Test.YtdfacbcenogplaaDoorPk12
namespace Go.Proofs.YtdfacbcenogplaaDoor
open Go.RowKit Go.Lib Go.Maps

set_option maxRecDepth 100000 in
set_option maxHeartbeats 4000000 in
theorem nfaLiteral_any (x s : ByteArray) (f : Int) (r1 : x.size ≤ 140737488351232) {W : World} (hE : REnv W) :
    Calls Tryd.prog 4 #[.string x, .agg #[.string s, .int .i64 f]] W fun e w' => e = .returned (.bool true) ∧ Below W.heap.size W w' := by
  have b0 := (Below.refl W.heap.size W).alloc (Nat.le_refl _) (.cells #[.string s, .int .i64 f] 23)
  have I0 := Blk.new W #[.string s, .int .i64 f] 23
  obtain ⟨W0, hW0⟩ : ∃ W0, W.alloc (.cells #[.string s, .int .i64 f] 23) = W0 := ⟨_, rfl⟩
  rw [hW0] at b0 I0
  have CF := Lib.hid (nfaFixed_any (hE.kept b0))
  have HB0 := Lib.hid (And.intro b0 I0)
  have HE := Lib.hid (hE.kept b0)
  clear b0 I0 hE
  go_enter Tryd.func4, Tryd.ntmps4
  go_wp2_with fail
  clear hW0
  refine CF.out.mono ?_
  rintro e W1 ⟨rfl, hb1⟩
  have hz0 := HB0.out.1.size
  have KX := Lib.hid (fun (X : World) (hb : Below W0.heap.size W0 X) => (HB0.out.2.below hb HB0.out.2.lt).two)
  have HB1 := Lib.hid hb1
  have hz1 := hb1.size
  obtain ⟨c0, c1⟩ := KX.out W1 hb1
  clear hb1 CF
  have FIN1 := Lib.hid (HB0.out.1.trans (HB1.out.mono hz0))
  by_cases h150 : 150 < x.size
  · have d1 : decide ((150 : Int) < (x.size : Int)) = true := decide_eq_true (by omega)
    clear h150
    go_wp2_with fail
    go_ret
    exact ⟨rfl, FIN1.out⟩
  have d1 : decide ((150 : Int) < (x.size : Int)) = false := decide_eq_false (by omega)
  by_cases h300 : 300 < s.size
  · have d2 : decide ((300 : Int) < (s.size : Int)) = true := decide_eq_true (by omega)
    clear h300
    go_wp2_with fail
    go_ret
    exact ⟨rfl, FIN1.out⟩
  have d2 : decide ((300 : Int) < (s.size : Int)) = false := decide_eq_false (by omega)
  obtain ⟨l, hl⟩ : ∃ l, x.data.toList = l := ⟨_, rfl⟩
  have hlen : l.length = x.size := by rw [← hl]; rfl
  have HBY := Lib.hid (fun (j : Nat) (hj : j < x.size) (hj' : j < l.length) => (show x[j]'hj = l[j]'hj' from by subst hl; rfl))
  have HL := Lib.hid hl
  have HLEN := Lib.hid hlen
  clear hl hlen
  go_wp2_with fail
  go_loop [5] (fun iv => ∃ k : Nat, iv = .int .i64 (k : Int) ∧ k ≤ x.size ∧ ∀ j (hj : j < l.length), j < k → litB l[j] = true) (fun iv => x.size - (RowKit.intOf iv).toNat)
  case atStart => exact ⟨0, rfl, Nat.zero_le _, fun j _ hj => absurd hj (Nat.not_lt_zero j)⟩
  case round =>
    obtain ⟨k, rfl, hk, h0⟩ := hrel
    have H0 := Lib.hid h0
    clear h0
    have g0 : (0 : Int) ≤ (k : Int) := by omega
    by_cases hlt : k < x.size
    · have gk : (k : Int) < (x.size : Int) := by omega
      obtain ⟨z, hz⟩ : ∃ z, (x[k]'hlt).toNat = z := ⟨_, rfl⟩
      have hzi : ((x[k]'hlt).toNat : Int) = (z : Int) := by omega
      have HZ := Lib.hid (fun (hj : k < l.length) => (show (l[k]'hj).toNat = z from by rw [← HBY.out k hlt hj]; exact hz))
      clear hz
      have w1 : IntKind.i64.wrap ((k : Int) + 1) = (k : Int) + 1 := by rw [IntKind.wrap_i64]; omega
      have hk5 : z < 48 ∨ (48 ≤ z ∧ z ≤ 57) ∨ (57 < z ∧ z < 97) ∨ (97 ≤ z ∧ z ≤ 122) ∨ 122 < z := by omega
      rcases hk5 with h | ⟨h, h'⟩ | ⟨h, h'⟩ | ⟨h, h'⟩ | h
      · have i1 : (z : Int) < 97 := by omega
        have i2 : (z : Int) < 48 := by omega
        go_wp2_with fail
        go_ret
        exact ⟨rfl, FIN1.out⟩
      · have i1 : (z : Int) < 97 := by omega
        have i2 : (48 : Int) ≤ (z : Int) := by omega
        have i3 : (z : Int) ≤ 57 := by omega
        have HN := Lib.hid (show ∀ j (hj : j < l.length), j < k + 1 → litB l[j] = true from fun j hj hjk => by
          rcases Nat.lt_or_ge j k with h1 | h1
          · exact H0.out j hj h1
          · obtain rfl : j = k := by omega
            unfold litB
            rw [HZ.out hj, decide_eq_true h, decide_eq_true h']
            simp)
        go_wp2_with fail
        (try go_round)
        all_goals first
        | exact ⟨k + 1, by go_num, by omega, HN.out⟩
        | exact ⟨⟨k + 1, by go_num, by omega, HN.out⟩, by simp [RowKit.intOf]; omega⟩
        | (simp [RowKit.intOf]; omega)
      · have i1 : (z : Int) < 97 := by omega
        have i2 : (48 : Int) ≤ (z : Int) := by omega
        have i3 : (57 : Int) < (z : Int) := by omega
        have j3 : decide ((z : Int) ≤ 57) = false := decide_eq_false (by omega)
        go_wp2_with fail
        go_ret
        exact ⟨rfl, FIN1.out⟩
      · have i1 : (97 : Int) ≤ (z : Int) := by omega
        have i2 : (z : Int) ≤ 122 := by omega
        have HN := Lib.hid (show ∀ j (hj : j < l.length), j < k + 1 → litB l[j] = true from fun j hj hjk => by
          rcases Nat.lt_or_ge j k with h1 | h1
          · exact H0.out j hj h1
          · obtain rfl : j = k := by omega
            unfold litB
            rw [HZ.out hj, decide_eq_true h, decide_eq_true h']
            simp)
        go_wp2_with fail
        (try go_round)
        all_goals first
        | exact ⟨k + 1, by go_num, by omega, HN.out⟩
        | exact ⟨⟨k + 1, by go_num, by omega, HN.out⟩, by simp [RowKit.intOf]; omega⟩
        | (simp [RowKit.intOf]; omega)
      · have i1 : (97 : Int) ≤ (z : Int) := by omega
        have i2 : (122 : Int) < (z : Int) := by omega
        have i3 : (48 : Int) ≤ (z : Int) := by omega
        have i4 : (57 : Int) < (z : Int) := by omega
        have j3 : decide ((z : Int) ≤ 57) = false := decide_eq_false (by omega)
        have j4 : decide ((z : Int) ≤ 122) = false := decide_eq_false (by omega)
        go_wp2_with fail
        go_ret
        exact ⟨rfl, FIN1.out⟩
    · obtain rfl : k = x.size := by omega
      have hall : ∀ c ∈ x.data.toList, litB c = true := fun c hc => by
        rw [HL.out] at hc
        obtain ⟨j, hj, rfl⟩ := List.getElem_of_mem hc
        exact H0.out j hj (by rw [← HLEN.out]; exact hj)
      have hpar := li_parse x (by omega) hall
      have CR := Lib.hid (fun (X : World) (hb : Below W0.heap.size W0 X) => ready_any (own_any false true) (show x.size ≤ 1024 by omega) (HE.out.kept hb))
      have HP := Lib.hid hpar
      clear hall hpar H0
      go_wp2_with fail
      refine (CR.out W1 HB1.out).mono ?_
      rintro e W2 ⟨hb2, hr1⟩
      have HB2 := Lib.hid (HB1.out.trans (hb2.mono hz1))
      obtain ⟨c20, c21⟩ := KX.out W2 HB2.out
      have FIN2 := Lib.hid (HB0.out.1.trans (HB2.out.mono hz0))
      clear hb2 c0 c1
      rcases hr1 with ⟨rfl, ta, pa, ea, hpa, hea⟩ | ⟨ta, Pa, rfl, hpa, hRa⟩
      · rw [HP.out] at hpa
        simp only [Prod.mk.injEq] at hpa
        exact absurd hpa.2.2.symm hea
      · rw [HP.out] at hpa
        simp only [Prod.mk.injEq, and_true] at hpa
        have hE2 := HE.out.kept HB2.out
        obtain ⟨f1, f2, _⟩ := hE2.far
        by_cases hf : f < 0 ∨ (s.size : Int) < f
        · have CO := Lib.hid (fun (P : Nat) (X : World) => find_out P s f hf X)
          clear hRa hE2 f1 f2 hpa
          rcases hf with hf | hf
          · go_wp2_with fail
            refine (CO.out Pa W2).mono ?_
            rintro e X5 ⟨rfl, rfl⟩
            go_wp2_with fail
            go_ret
            exact ⟨rfl, FIN2.out⟩
          · have hf0 : ¬ f < 0 := by omega
            go_wp2_with fail
            refine (CO.out Pa W2).mono ?_
            rintro e X5 ⟨rfl, rfl⟩
            go_wp2_with fail
            go_ret
            exact ⟨rfl, FIN2.out⟩
        · obtain ⟨n, hn⟩ : ∃ n : Nat, f = n := ⟨f.toNat, by omega⟩
          subst hn
          have hns : n ≤ s.size := by omega
          have CA := Lib.hid (find_ready hRa hE2.tabs f1 f2 s (by omega) hns)
          obtain ⟨m, hm⟩ := hE2.mx
          have hmx := Lib.hid hE2
          have gn : (0 : Int) ≤ (n : Int) := by omega
          have gn2 : (n : Int) ≤ (s.size : Int) := by omega
          clear hRa f1 f2 hf hE2 hm
          go_wp2_with fail
          refine CA.out.mono ?_
          rintro e W5 ⟨found, st, en, rfl, hno, ⟨st', en', he, ht⟩, hb5⟩
          have HB5 := Lib.hid hb5
          have FIN5 := Lib.hid (FIN2.out.trans (hb5.mono FIN2.out.size))
          obtain ⟨c50, c51⟩ := KX.out W5 (HB2.out.trans (hb5.mono (by have := HB2.out.size; omega)))
          obtain ⟨mm, hmm⟩ := (hmx.out.kept hb5).mx
          have CI := Lib.hid (Tryd.strings_Index (s.extract n s.size) x mm W5 (by rw [ByteArray.size_extract]; omega) hmm)
          clear hb5 CA c20 c21 hmm
          subst hpa
          have hown : (togF 5 (x.data.toList.map fun c => trC c.toNat)).ownT (chLow false true) = togF 5 (x.data.toList.map fun c => trC c.toNat) := own_chr x.data.toList
          rw [hown] at ht
          have hlt := lit_told ⟨0, 0, 0, s, false, true, 0, 0, [], 0, false, 0⟩ rfl rfl x.data.toList hns ht
          obtain ⟨j1, j2⟩ := li_index s x.data.toList hns hlt.1 hlt.2
          have hst := hlt.1
          have hxl : x.data.toList.length = x.size := rfl
          have hex : (s.extract n s.size).data.toList = s.data.toList.drop n := by
            rw [ByteArray.data_extract, Array.toList_extract]
            simp only [List.extract]
            rw [List.take_of_length_le]
            rw [List.length_drop]
            exact Nat.le_refl _
          have CI := CI.out
          rw [hex] at CI
          have CI := Lib.hid CI
          cases found with
          | false =>
            obtain ⟨rfl, rfl⟩ := hno rfl
            have hi := j2 rfl
            have CI := CI.out
            rw [hi] at CI
            have CI := Lib.hid CI
            clear j1 j2 hst hlt ht hown he hno hi hex
            go_wp2_with fail
            refine CI.out.mono ?_
            rintro e W6 ⟨rfl, rfl⟩
            go_wp2_with fail
            go_ret
            exact ⟨rfl, FIN5.out⟩
          | true =>
            obtain ⟨rfl, rfl⟩ := he rfl
            have hi := j1 rfl
            obtain ⟨k1, k2, k3, _⟩ := hst rfl
            replace k3 : st' ≤ s.size := k3
            have CI := CI.out
            rw [hi] at CI
            obtain ⟨dd, hdd⟩ : ∃ dd : Nat, st' - n = dd := ⟨_, rfl⟩
            rw [hdd] at CI
            have CI := Lib.hid CI
            have e1 : st' = n + dd := by omega
            rw [hxl] at k2
            subst e1
            subst k2
            have w1 : IntKind.i64.wrap ((n : Int) + (dd : Int)) = (n : Int) + (dd : Int) := by rw [IntKind.wrap_i64]; omega
            have w2 : IntKind.i64.wrap ((n : Int) + (dd : Int) + (x.size : Int)) = (n : Int) + (dd : Int) + (x.size : Int) := by rw [IntKind.wrap_i64]; omega
            clear j1 j2 hst hlt ht hown he hno hi hex
            go_wp2_with fail
            refine CI.out.mono ?_
            rintro e W6 ⟨rfl, rfl⟩
            go_wp2_with fail
            go_ret
            exact ⟨by simp, FIN5.out⟩
end Go.Proofs.YtdfacbcenogplaaDoor
