/- The law UstrTiles, walked. -/
import Derived.Deep.RegionHeld3
import Derived.Deep.QuietTactic
import Derived.BigQuiet
import Derived.Test.YtaemijgfngdjlaaDoorUstrSx
import Derived.Test.YtaemijgfngdjlaaDoorUstrK
namespace Go.Proofs.YtaemijgfngdjlaaDoor
open Go.RowKit Go.Lib

set_option maxRecDepth 100000 in
set_option maxHeartbeats 4000000 in
theorem tiles_byte (s : ByteArray) (n : Int) (m : Nat) (b : Bool) (hb : b = true) (hm : m < cnt s b) (hmn : min (max n 1) ((cnt s b : Int) + 1) = (m : Int) + 1) (w : World) (hs : s.size ≤ 1048576) (hT : Utf8Tabs 0 1 w) :
    Calls Tryd.prog 8 #[.string s, .int .i64 n, .bool b] w fun e w' => e = .returned (.bool true) ∧ Below w.heap.size w w' := by
  have hcl := cnt_le s b
  have hmc : m ≤ cnt s b := by omega
  have hple := pl_le s b m
  have FX := Lib.hid (fixed_any w hT)
  have HT := Lib.hid hT; clear hT
  have HTW := Lib.hid (fun (W : World) (h : Below w.heap.size w W) => tabs_below HT.out h (Nat.le_refl _))
  have cL := fun (W : World) => len_any s b W (by omega)
  have cA := fun (W : World) h => callsIn_wide.1 (sub_in s 1 ((m : Int) + 1) b W hs h)
  have cB := fun (W : World) h => callsIn_wide.1 (sub_in s ((m : Int) + 1) ((cnt s b : Int) + 1) b W hs h)
  rw [tile_a s b m hmc] at cA
  rw [tile_b s b m hmc] at cB
  have cP := fun (W : World) h => callsIn_wide.1 (place_in s ((m : Int) + 1) b W hs h)
  have hpz : placeZ s b ((m : Int) + 1) = (((pl s b m : Nat) : Int), true) := by rw [placeZ, if_pos (by omega), show ((m : Int) + 1 - 1).toNat = m by omega]
  rw [hpz] at cP
  have za := take_size s (pl s b m) hple
  have zb := drop_size s (pl s b m)
  have cLb := fun (W : World) => len_any (s.extract (pl s b m) s.size) b W (by omega)
  have cLa := fun (W : World) => len_any (s.extract 0 (pl s b m)) b W (by omega)
  rw [suffix_cnt s b m hmc] at cLb
  rw [prefix_cnt s b m hmc] at cLa
  have cN := fun (W : World) h => next_any s (pl s b m : Nat) b W h (by omega)
  rw [nextZ_eq] at cN
  have cI := fun (W : World) h => index_any s (s.extract (pl s b m) s.size) b W (by omega) (by omega) h
  have hcat := tile_cat s (pl s b m) hple
  have hpe := (cnt_spec s b m).2 hm
  have hwin := wid_in s b _ hpe
  have hix := fun (r : Nat) (h : IsIdx s (s.extract (pl s b m) s.size) b r) => idx_tile hm h
  have hbe : (s.extract (pl s b m) s.size).toList ≠ [] := by rw [Lib.toList_data]; intro e; have h2 := congrArg List.length e; rw [← Lib.size_eq] at h2; simp at h2; omega
  have hcod := cod_le s b (pl s b m)
  obtain ⟨p, hp⟩ : ∃ p, pl s b m = p := ⟨_, rfl⟩
  obtain ⟨K, hK⟩ : ∃ K, cnt s b = K := ⟨_, rfl⟩
  subst hb
  rw [hp] at cA cB cP za zb cLb cLa cN cI hcat hix hbe hcod hpe hwin
  rw [hK] at cL cB cLb hmn hmc hcl hm
  obtain ⟨C, hC⟩ : ∃ C, cod s true p = C := ⟨_, rfl⟩
  rw [hC] at cN hcod
  obtain ⟨V, hV⟩ : ∃ V, wid s true p = V := ⟨_, rfl⟩
  rw [hV] at cN hwin
  obtain ⟨X, hX⟩ : ∃ X, s.extract 0 p = X := ⟨_, rfl⟩
  obtain ⟨Y, hY⟩ : ∃ Y, s.extract p s.size = Y := ⟨_, rfl⟩
  rw [hX] at cA cLa hcat za
  rw [hY] at cB cLb cI hcat hix hbe zb
  have e1 : (X ++ Y).toList = s.toList := hcat
  have e2 : ((p : Int) != (X.size : Int)) = false := by rw [za]; simp
  have e3 : (((K - m : Nat) : Int) != (K : Int) + 1 - ((m : Int) + 1)) = false := by rw [bne_eq_false_iff_eq]; omega
  have e4 : ((m : Int) != (m : Int) + 1 - 1) = false := by rw [bne_eq_false_iff_eq]; omega
  have hKm : (K : Int) + 1 - ((m : Int) + 1) = ((K - m : Nat) : Int) := by omega
  have hm1 : (m : Int) + 1 - 1 = (m : Int) := by omega
  have hxz : X.size ≤ 1048576 := by omega
  have hyz : Y.size ≤ 1048576 := by omega
  have HE2 := Lib.hid e2
  have HIX := Lib.hid hix
  have HMN := Lib.hid hmn
  have HBE := Lib.hid hbe
  have f1 : Y.toList.isEmpty = false := by cases h : Y.toList with
    | nil => exact absurd h hbe
    | cons _ _ => rfl
  have cL' := Lib.hid cL
  have cA' := Lib.hid cA
  have cB' := Lib.hid cB
  have cP' := Lib.hid cP
  have cLb' := Lib.hid cLb
  have cLa' := Lib.hid cLa
  have cN' := Lib.hid cN
  have cI' := Lib.hid cI
  have q1 : min (max n 1) ((K : Int) + 1) = (m : Int) + 1 := hmn
  have q2 : (if (if n < 1 then 1 else n) < (K : Int) + 1 then (if n < 1 then 1 else n) else (K : Int) + 1) = (m : Int) + 1 := by (repeat' split) <;> omega
  clear cL cA cB cP cLb cLa cN cI hpz za zb hcat hple hp hK hC hX hY hix hmn hbe hmc hV hwin
  go_enter Tryd.func8, Tryd.ntmps8
  go_wp2_with fail
  refine FX.out.mono ?_
  rintro e w0 ⟨rfl, hB⟩
  clear FX
  go_wp2_with fail
  refine (cL'.out _).mono ?_
  rintro e w1 ⟨rfl, hn⟩
  have hB := hB.trans (hn.mono hB.size)
  clear hn
  go_wp2_with fail
  refine (cA'.out _ (HTW.out _ hB)).mono ?_
  rintro e w2 ⟨rfl, hn⟩
  have hB := hB.trans (hn.mono hB.size)
  clear hn
  go_wp2_with fail
  refine (cB'.out _ (HTW.out _ hB)).mono ?_
  rintro e w3 ⟨rfl, hn⟩
  have hB := hB.trans (hn.mono hB.size)
  clear hn
  go_wp2_with fail
  refine (cP'.out _ (HTW.out _ hB)).mono ?_
  rintro e w4 ⟨rfl, hn⟩
  have hB := hB.trans (hn.mono hB.size)
  clear hn
  go_wp2_with fail
  refine (cLb'.out _).mono ?_
  rintro e w5 ⟨rfl, hn⟩
  have hB := hB.trans (hn.mono hB.size)
  clear hn
  go_wp2_with fail
  refine (cLa'.out _).mono ?_
  rintro e w6 ⟨rfl, hn⟩
  have hB := hB.trans (hn.mono hB.size)
  clear hn
  go_wp2_with fail
  refine (cN'.out _ (HTW.out _ hB)).mono ?_
  rintro e w7 ⟨rfl, hn⟩
  have hB := hB.trans (hn.mono hB.size)
  clear hn
  go_wp2
  have s5 : decide ((m : Int) + 1 ≤ (K : Int)) = true := by simp; omega
  have s6 : decide ((K : Int) < (m : Int) + 1) = false := by simp; omega
  have s7 : decide ((K : Int) ≤ (m : Int)) = false := by simp; omega
  have s8 : decide (K ≤ m) = false := by simp; omega
  have s9 : ¬ K ≤ m := by omega
  go_quiet (fail)
  have hB : Below w.heap.size w (w7.drewN nq) := below_drewN hB _
  clear s5 s6 s7 s8 s9
  go_wp2_with fail
  refine (cI'.out _ (HTW.out _ hB)).mono ?_
  rintro e w8 ⟨⟨r, rfl, hr⟩, hn⟩
  have hB := hB.trans (hn.mono hB.size)
  obtain ⟨r1, r2⟩ := HIX.out r hr
  have r3 : (r : Int) ≤ (m : Int) + 1 := by omega
  clear hn hr
  go_wp2
  go_ret
  exact ⟨rfl, hB⟩
set_option maxRecDepth 100000 in
set_option maxHeartbeats 4000000 in
theorem tiles_end (s : ByteArray) (n : Int) (m : Nat) (b : Bool) (hm : m = cnt s b) (hmn : min (max n 1) ((cnt s b : Int) + 1) = (m : Int) + 1) (w : World) (hs : s.size ≤ 1048576) (hT : Utf8Tabs 0 1 w) :
    Calls Tryd.prog 8 #[.string s, .int .i64 n, .bool b] w fun e w' => e = .returned (.bool true) ∧ Below w.heap.size w w' := by
  have hcl := cnt_le s b
  have hmc : m ≤ cnt s b := by omega
  have hple := pl_le s b m
  have FX := Lib.hid (fixed_any w hT)
  have HT := Lib.hid hT; clear hT
  have HTW := Lib.hid (fun (W : World) (h : Below w.heap.size w W) => tabs_below HT.out h (Nat.le_refl _))
  have cL := fun (W : World) => len_any s b W (by omega)
  have cA := fun (W : World) h => callsIn_wide.1 (sub_in s 1 ((m : Int) + 1) b W hs h)
  have cB := fun (W : World) h => callsIn_wide.1 (sub_in s ((m : Int) + 1) ((cnt s b : Int) + 1) b W hs h)
  rw [tile_a s b m hmc] at cA
  rw [tile_b s b m hmc] at cB
  have cP := fun (W : World) h => callsIn_wide.1 (place_in s ((m : Int) + 1) b W hs h)
  have hpz : placeZ s b ((m : Int) + 1) = (((pl s b m : Nat) : Int), true) := by rw [placeZ, if_pos (by omega), show ((m : Int) + 1 - 1).toNat = m by omega]
  rw [hpz] at cP
  have za := take_size s (pl s b m) hple
  have zb := drop_size s (pl s b m)
  have cLb := fun (W : World) => len_any (s.extract (pl s b m) s.size) b W (by omega)
  have cLa := fun (W : World) => len_any (s.extract 0 (pl s b m)) b W (by omega)
  rw [suffix_cnt s b m hmc] at cLb
  rw [prefix_cnt s b m hmc] at cLa
  have cN := fun (W : World) h => next_any s (pl s b m : Nat) b W h (by omega)
  rw [nextZ_eq] at cN
  have cI := fun (W : World) h => index_any s (s.extract (pl s b m) s.size) b W (by omega) (by omega) h
  have hcat := tile_cat s (pl s b m) hple
  have hpe : pl s b m = s.size := by rw [hm]; exact pl_cnt s b
  have hw0 : wid s b (pl s b m) = 0 := wid_out s b _ (by omega)
  rw [hw0] at cN
  have hix := fun (r : Nat) (h : IsIdx s (s.extract (pl s b m) s.size) b r) => idx_end (by omega) h
  have hbe : (s.extract (pl s b m) s.size).toList = [] := by rw [Lib.toList_data]; exact List.eq_nil_of_length_eq_zero (by rw [← Lib.size_eq]; omega)
  have hcod := cod_le s b (pl s b m)
  obtain ⟨p, hp⟩ : ∃ p, pl s b m = p := ⟨_, rfl⟩
  obtain ⟨K, hK⟩ : ∃ K, cnt s b = K := ⟨_, rfl⟩
  rw [hp] at cA cB cP za zb cLb cLa cN cI hcat hix hbe hcod hpe
  rw [hK] at cL cB cLb hmn hmc hcl hm
  obtain ⟨C, hC⟩ : ∃ C, cod s b p = C := ⟨_, rfl⟩
  rw [hC] at cN hcod
  obtain ⟨X, hX⟩ : ∃ X, s.extract 0 p = X := ⟨_, rfl⟩
  obtain ⟨Y, hY⟩ : ∃ Y, s.extract p s.size = Y := ⟨_, rfl⟩
  rw [hX] at cA cLa hcat za
  rw [hY] at cB cLb cI hcat hix hbe zb
  have e1 : (X ++ Y).toList = s.toList := hcat
  have e2 : ((p : Int) != (X.size : Int)) = false := by rw [za]; simp
  have e3 : (((K - m : Nat) : Int) != (K : Int) + 1 - ((m : Int) + 1)) = false := by rw [bne_eq_false_iff_eq]; omega
  have e4 : ((m : Int) != (m : Int) + 1 - 1) = false := by rw [bne_eq_false_iff_eq]; omega
  have hKm : (K : Int) + 1 - ((m : Int) + 1) = ((K - m : Nat) : Int) := by omega
  have hm1 : (m : Int) + 1 - 1 = (m : Int) := by omega
  have hxz : X.size ≤ 1048576 := by omega
  have hyz : Y.size ≤ 1048576 := by omega
  have HE2 := Lib.hid e2
  have HIX := Lib.hid hix
  have HMN := Lib.hid hmn
  have HBE := Lib.hid hbe
  have f1 : Y.toList.isEmpty = true := by rw [hbe]; rfl
  have k1 : K ≤ m := by omega
  have k2 : m ≤ K := by omega
  have cL' := Lib.hid cL
  have cA' := Lib.hid cA
  have cB' := Lib.hid cB
  have cP' := Lib.hid cP
  have cLb' := Lib.hid cLb
  have cLa' := Lib.hid cLa
  have cN' := Lib.hid cN
  have cI' := Lib.hid cI
  have q1 : min (max n 1) ((K : Int) + 1) = (m : Int) + 1 := hmn
  have q2 : (if (if n < 1 then 1 else n) < (K : Int) + 1 then (if n < 1 then 1 else n) else (K : Int) + 1) = (m : Int) + 1 := by (repeat' split) <;> omega
  clear cL cA cB cP cLb cLa cN cI hpz za zb hcat hple hp hK hC hX hY hix hmn hbe hmc hpe hm hw0
  go_enter Tryd.func8, Tryd.ntmps8
  go_wp2_with fail
  refine FX.out.mono ?_
  rintro e w0 ⟨rfl, hB⟩
  clear FX
  go_wp2_with fail
  refine (cL'.out _).mono ?_
  rintro e w1 ⟨rfl, hn⟩
  have hB := hB.trans (hn.mono hB.size)
  clear hn
  go_wp2_with fail
  refine (cA'.out _ (HTW.out _ hB)).mono ?_
  rintro e w2 ⟨rfl, hn⟩
  have hB := hB.trans (hn.mono hB.size)
  clear hn
  go_wp2_with fail
  refine (cB'.out _ (HTW.out _ hB)).mono ?_
  rintro e w3 ⟨rfl, hn⟩
  have hB := hB.trans (hn.mono hB.size)
  clear hn
  go_wp2_with fail
  refine (cP'.out _ (HTW.out _ hB)).mono ?_
  rintro e w4 ⟨rfl, hn⟩
  have hB := hB.trans (hn.mono hB.size)
  clear hn
  go_wp2_with fail
  refine (cLb'.out _).mono ?_
  rintro e w5 ⟨rfl, hn⟩
  have hB := hB.trans (hn.mono hB.size)
  clear hn
  go_wp2_with fail
  refine (cLa'.out _).mono ?_
  rintro e w6 ⟨rfl, hn⟩
  have hB := hB.trans (hn.mono hB.size)
  clear hn
  go_wp2_with fail
  refine (cN'.out _ (HTW.out _ hB)).mono ?_
  rintro e w7 ⟨rfl, hn⟩
  have hB := hB.trans (hn.mono hB.size)
  clear hn
  go_wp2
  have s5 : decide ((m : Int) + 1 ≤ (K : Int)) = false := by simp; omega
  have s6 : decide ((K : Int) < (m : Int) + 1) = true := by simp; omega
  have s7 : decide (m < K) = false := by simp; omega
  have s8 : decide (K ≤ m) = true := by simp; omega
  have s9 : ¬ m < K := by omega
  go_quiet (fail)
  have hB : Below w.heap.size w (w7.drewN nq) := below_drewN hB _
  clear s5 s6 s7 s8 s9
  go_wp2_with fail
  refine (cI'.out _ (HTW.out _ hB)).mono ?_
  rintro e w8 ⟨⟨r, rfl, hr⟩, hn⟩
  have hB := hB.trans (hn.mono hB.size)
  obtain rfl := HIX.out r hr
  clear hn hr
  go_wp2
  go_ret
  exact ⟨rfl, hB⟩
end Go.Proofs.YtaemijgfngdjlaaDoor
