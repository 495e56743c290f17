/- The law UstrTiles, walked. -/
import Derived.Deep.RegionHeld3
import Derived.Deep.QuietTactic
import Derived.BigQuiet
import Derived.Test.YtaemijgfngdjlaaDoorUstrSx
import Derived.Test.YtaemijgfngdjlaaDoorUstrK
namespace Go.Proofs.YtaemijgfngdjlaaDoor
open Go.RowKit Go.Lib

set_option maxRecDepth 100000 in
set_option maxHeartbeats 4000000 in
theorem tiles_mid (s : ByteArray) (n : Int) (m : Nat) (b : Bool) (hb : b = false) (hm : m < cnt s b) (hmn : min (max n 1) ((cnt s b : Int) + 1) = (m : Int) + 1) (w : World) (hs : s.size ≤ 1048576) (hT : Utf8Tabs 0 1 w) :
    Calls Tryd.prog 8 #[.string s, .int .i64 n, .bool b] w fun e w' => e = .returned (.bool true) ∧ Below w.heap.size w w' := by
  have hcl := cnt_le s b
  have hmc : m ≤ cnt s b := by omega
  have hple := pl_le s b m
  have FX := Lib.hid (fixed_any w hT)
  have HT := Lib.hid hT; clear hT
  have HTW := Lib.hid (fun (W : World) (h : Below w.heap.size w W) => tabs_below HT.out h (Nat.le_refl _))
  have cL := fun (W : World) => len_any s b W (by omega)
  have cA := fun (W : World) h => callsIn_wide.1 (sub_in s 1 ((m : Int) + 1) b W hs h)
  have cB := fun (W : World) h => callsIn_wide.1 (sub_in s ((m : Int) + 1) ((cnt s b : Int) + 1) b W hs h)
  rw [tile_a s b m hmc] at cA
  rw [tile_b s b m hmc] at cB
  have cP := fun (W : World) h => callsIn_wide.1 (place_in s ((m : Int) + 1) b W hs h)
  have hpz : placeZ s b ((m : Int) + 1) = (((pl s b m : Nat) : Int), true) := by rw [placeZ, if_pos (by omega), show ((m : Int) + 1 - 1).toNat = m by omega]
  rw [hpz] at cP
  have za := take_size s (pl s b m) hple
  have zb := drop_size s (pl s b m)
  have cLb := fun (W : World) => len_any (s.extract (pl s b m) s.size) b W (by omega)
  have cLa := fun (W : World) => len_any (s.extract 0 (pl s b m)) b W (by omega)
  rw [suffix_cnt s b m hmc] at cLb
  rw [prefix_cnt s b m hmc] at cLa
  have cN := fun (W : World) h => next_any s (pl s b m : Nat) b W h (by omega)
  rw [nextZ_eq] at cN
  have cI := fun (W : World) h => index_any s (s.extract (pl s b m) s.size) b W (by omega) (by omega) h
  have hcat := tile_cat s (pl s b m) hple
  have hpe := (cnt_spec s b m).2 hm
  have hwin := wid_in s b _ hpe
  have hix := fun (r : Nat) (h : IsIdx s (s.extract (pl s b m) s.size) b r) => idx_tile hm h
  have hbe : (s.extract (pl s b m) s.size).toList ≠ [] := by rw [Lib.toList_data]; intro e; have h2 := congrArg List.length e; rw [← Lib.size_eq] at h2; simp at h2; omega
  have hot := own_text s (pl s false m) (by subst hb; exact hpe)
  have hcod := cod_le s b (pl s b m)
  obtain ⟨p, hp⟩ : ∃ p, pl s b m = p := ⟨_, rfl⟩
  obtain ⟨K, hK⟩ : ∃ K, cnt s b = K := ⟨_, rfl⟩
  subst hb
  rw [hp] at hot
  rw [hp] at cA cB cP za zb cLb cLa cN cI hcat hix hbe hcod hpe hwin
  rw [hK] at cL cB cLb hmn hmc hcl hm
  obtain ⟨C, hC⟩ : ∃ C, cod s false p = C := ⟨_, rfl⟩
  rw [hC] at cN hcod hot
  obtain ⟨V, hV⟩ : ∃ V, wid s false p = V := ⟨_, rfl⟩
  rw [hV] at cN hwin hot
  obtain ⟨X, hX⟩ : ∃ X, s.extract 0 p = X := ⟨_, rfl⟩
  obtain ⟨Y, hY⟩ : ∃ Y, s.extract p s.size = Y := ⟨_, rfl⟩
  rw [hX] at cA cLa hcat za
  rw [hY] at cB cLb cI hcat hix hbe zb
  have cT := fun (W : World) => text_any (C : Int) W (by omega)
  obtain ⟨Z, hZ⟩ : ∃ Z, textB (C : Int) = Z := ⟨_, rfl⟩
  rw [hZ] at cT hot
  have e5 : (Z.toList != (s.extract p (p + V)).toList) = false := by rw [hot]; simp
  have e1 : (X ++ Y).toList = s.toList := hcat
  have e2 : ((p : Int) != (X.size : Int)) = false := by rw [za]; simp
  have e3 : (((K - m : Nat) : Int) != (K : Int) + 1 - ((m : Int) + 1)) = false := by rw [bne_eq_false_iff_eq]; omega
  have e4 : ((m : Int) != (m : Int) + 1 - 1) = false := by rw [bne_eq_false_iff_eq]; omega
  have hKm : (K : Int) + 1 - ((m : Int) + 1) = ((K - m : Nat) : Int) := by omega
  have hm1 : (m : Int) + 1 - 1 = (m : Int) := by omega
  have hxz : X.size ≤ 1048576 := by omega
  have hyz : Y.size ≤ 1048576 := by omega
  have HE2 := Lib.hid e2
  have HIX := Lib.hid hix
  have HMN := Lib.hid hmn
  have HBE := Lib.hid hbe
  have f1 : Y.toList.isEmpty = false := by cases h : Y.toList with
    | nil => exact absurd h hbe
    | cons _ _ => rfl
  have cL' := Lib.hid cL
  have cA' := Lib.hid cA
  have cB' := Lib.hid cB
  have cP' := Lib.hid cP
  have cLb' := Lib.hid cLb
  have cLa' := Lib.hid cLa
  have cN' := Lib.hid cN
  have cI' := Lib.hid cI
  have cT' := Lib.hid cT
  have q1 : min (max n 1) ((K : Int) + 1) = (m : Int) + 1 := hmn
  have q2 : (if (if n < 1 then 1 else n) < (K : Int) + 1 then (if n < 1 then 1 else n) else (K : Int) + 1) = (m : Int) + 1 := by (repeat' split) <;> omega
  clear cL cA cB cP cLb cLa cN cI cT hpz za zb hcat hple hp hK hC hX hY hix hmn hbe hmc hV hZ
  go_enter Tryd.func8, Tryd.ntmps8
  go_wp2_with fail
  refine FX.out.mono ?_
  rintro e w0 ⟨rfl, hB⟩
  clear FX
  go_wp2_with fail
  refine (cL'.out _).mono ?_
  rintro e w1 ⟨rfl, hn⟩
  have hB := hB.trans (hn.mono hB.size)
  clear hn
  go_wp2_with fail
  refine (cA'.out _ (HTW.out _ hB)).mono ?_
  rintro e w2 ⟨rfl, hn⟩
  have hB := hB.trans (hn.mono hB.size)
  clear hn
  go_wp2_with fail
  refine (cB'.out _ (HTW.out _ hB)).mono ?_
  rintro e w3 ⟨rfl, hn⟩
  have hB := hB.trans (hn.mono hB.size)
  clear hn
  go_wp2_with fail
  refine (cP'.out _ (HTW.out _ hB)).mono ?_
  rintro e w4 ⟨rfl, hn⟩
  have hB := hB.trans (hn.mono hB.size)
  clear hn
  go_wp2_with fail
  refine (cLb'.out _).mono ?_
  rintro e w5 ⟨rfl, hn⟩
  have hB := hB.trans (hn.mono hB.size)
  clear hn
  go_wp2_with fail
  refine (cLa'.out _).mono ?_
  rintro e w6 ⟨rfl, hn⟩
  have hB := hB.trans (hn.mono hB.size)
  clear hn
  go_wp2_with fail
  refine (cN'.out _ (HTW.out _ hB)).mono ?_
  rintro e w7 ⟨rfl, hn⟩
  have hB := hB.trans (hn.mono hB.size)
  clear hn
  go_wp2
  have hR := Below.refl w7.heap.size w7
  obtain ⟨v1, v2⟩ := hwin
  have s1 : IntKind.i64.wrap ((p : Int) + (V : Int)) = (p : Int) + (V : Int) := IntWalk.i64_in _ (by omega)
  have s2 : ((p : Int) + (V : Int)).toNat = p + V := by omega
  have s3 : (p : Int) ≤ (p : Int) + (V : Int) := by omega
  have s4 : (p : Int) + (V : Int) ≤ (s.size : Int) := by omega
  have s5 : decide ((m : Int) + 1 ≤ (K : Int)) = true := by simp; omega
  have s6 : decide ((K : Int) < (m : Int) + 1) = false := by simp; omega
  have s7 : decide ((K : Int) ≤ (m : Int)) = false := by simp; omega
  have s8 : decide (K ≤ m) = false := by simp; omega
  have s9 : ¬ K ≤ m := by omega
  refine wp_region_noPanic ?_
  refine wp_region_held_drew (S := fun _ => True) (by kernel_rfl) trivial (fun _ => ?_)
  refine wpAnyH_take (i := 0) (oi := ({ dst := some 82, op := Op.move (Operand.tmp 1), type := 3, pos := "law.go:103", after := #[], guard := none } : Oper)) (v := ?_) rfl (by kernel_rfl) (by kernel_rfl) (by kernel_rfl) (fun _ _ _ h => h) (Or.inl ⟨by rfl, ?_⟩) trivial ?_
  rotate_left
  · intro w' _
    go_simp
    try with_reducible rfl
  try simp only [Act.put, List.setIfInBounds_toArray, List.set_cons_zero, List.set_cons_succ]
  refine wpAnyH_take (i := 1) (oi := ({ dst := some 83, op := Op.move (Operand.tmp 7), type := 3, pos := "law.go:103", after := #[], guard := none } : Oper)) (v := ?_) rfl (by kernel_rfl) (by kernel_rfl) (by kernel_rfl) (fun _ _ _ h => h) (Or.inl ⟨by rfl, ?_⟩) trivial ?_
  rotate_left
  · intro w' _
    go_simp
    try with_reducible rfl
  try simp only [Act.put, List.setIfInBounds_toArray, List.set_cons_zero, List.set_cons_succ]
  refine wpAnyH_take (i := 2) (oi := ({ dst := some 84, op := Op.binOp BinOp.leq 3 (Operand.tmp 82) (Operand.tmp 83) 3, type := 4, pos := "law.go:103", after := #[{ on := 0, ground := Ground.data }, { on := 1, ground := Ground.data }], guard := none } : Oper)) (v := ?_) rfl (by kernel_rfl) (by kernel_rfl) (by kernel_rfl) (fun _ _ _ h => h) (Or.inl ⟨by rfl, ?_⟩) trivial ?_
  rotate_left
  · intro w' _
    go_simp
    try with_reducible rfl
  try simp only [Act.put, List.setIfInBounds_toArray, List.set_cons_zero, List.set_cons_succ]
  refine wpAnyH_take (i := 3) (oi := ({ dst := some 85, op := Op.move (Operand.tmp 84), type := 4, pos := "law.go:103", after := #[{ on := 2, ground := Ground.data }], guard := none } : Oper)) (v := ?_) rfl (by kernel_rfl) (by kernel_rfl) (by kernel_rfl) (fun _ _ _ h => h) (Or.inl ⟨by rfl, ?_⟩) trivial ?_
  rotate_left
  · intro w' _
    go_simp
    try with_reducible rfl
  try simp only [Act.put, List.setIfInBounds_toArray, List.set_cons_zero, List.set_cons_succ]
  refine wpAnyH_take (i := 4) (oi := ({ dst := some 86, op := Op.move (Operand.tmp 2), type := 4, pos := "law.go:103", after := #[{ on := 3, ground := Ground.guard }], guard := some (3, true) } : Oper)) (v := ?_) rfl (by kernel_rfl) (by kernel_rfl) (by kernel_rfl) (fun _ _ _ h => h) (Or.inl ⟨by rfl, ?_⟩) trivial ?_
  rotate_left
  · intro w' _
    go_simp
    try with_reducible rfl
  try simp only [Act.put, List.setIfInBounds_toArray, List.set_cons_zero, List.set_cons_succ]
  refine wpAnyH_take (i := 5) (oi := ({ dst := some 87, op := Op.unOp UnOp.not 4 (Operand.tmp 86), type := 4, pos := "law.go:103", after := #[{ on := 4, ground := Ground.data }, { on := 3, ground := Ground.guard }], guard := some (3, true) } : Oper)) (v := ?_) rfl (by kernel_rfl) (by kernel_rfl) (by kernel_rfl) (fun _ _ _ h => h) (Or.inl ⟨by rfl, ?_⟩) trivial ?_
  rotate_left
  · intro w' _
    go_simp
    try with_reducible rfl
  try simp only [Act.put, List.setIfInBounds_toArray, List.set_cons_zero, List.set_cons_succ]
  refine wpAnyH_take (i := 6) (oi := ({ dst := some 88, op := Op.pick (Operand.tmp 85) (Operand.tmp 87) (Operand.const (Value.bool false)), type := 4, pos := "law.go:103", after := #[{ on := 3, ground := Ground.data }, { on := 5, ground := Ground.data }], guard := none } : Oper)) (v := ?_) rfl (by kernel_rfl) (by kernel_rfl) (by kernel_rfl) (fun _ _ _ h => h) (Or.inl ⟨by rfl, ?_⟩) trivial ?_
  rotate_left
  · intro w' _
    go_simp
    try with_reducible rfl
  try simp only [Act.put, List.setIfInBounds_toArray, List.set_cons_zero, List.set_cons_succ]
  refine wpAnyH_take (i := 7) (oi := ({ dst := some 89, op := Op.move (Operand.tmp 88), type := 4, pos := "law.go:103", after := #[{ on := 6, ground := Ground.data }, { on := 3, ground := Ground.chain }], guard := none } : Oper)) (v := ?_) rfl (by kernel_rfl) (by kernel_rfl) (by kernel_rfl) (fun _ _ _ h => h) (Or.inl ⟨by rfl, ?_⟩) trivial ?_
  rotate_left
  · intro w' _
    go_simp
    try with_reducible rfl
  try simp only [Act.put, List.setIfInBounds_toArray, List.set_cons_zero, List.set_cons_succ]
  refine wpAnyH_take (i := 8) (oi := ({ dst := some 90, op := Op.move (Operand.tmp 12), type := 3, pos := "law.go:103", after := #[{ on := 7, ground := Ground.guard }], guard := some (7, true) } : Oper)) (v := ?_) rfl (by kernel_rfl) (by kernel_rfl) (by kernel_rfl) (fun _ _ _ h => h) (Or.inl ⟨by rfl, ?_⟩) trivial ?_
  rotate_left
  · intro w' _
    go_simp
    try with_reducible rfl
  try simp only [Act.put, List.setIfInBounds_toArray, List.set_cons_zero, List.set_cons_succ]
  refine wpAnyH_take (i := 10) (oi := ({ dst := some 92, op := Op.move (Operand.tmp 0), type := 9, pos := "law.go:103", after := #[{ on := 7, ground := Ground.guard }], guard := some (7, true) } : Oper)) (v := ?_) rfl (by kernel_rfl) (by kernel_rfl) (by kernel_rfl) (fun _ _ _ h => h) (Or.inl ⟨by rfl, ?_⟩) trivial ?_
  rotate_left
  · intro w' _
    go_simp
    try with_reducible rfl
  try simp only [Act.put, List.setIfInBounds_toArray, List.set_cons_zero, List.set_cons_succ]
  refine wpAnyH_take (i := 11) (oi := ({ dst := some 93, op := Op.move (Operand.tmp 10), type := 3, pos := "law.go:103", after := #[{ on := 7, ground := Ground.guard }], guard := some (7, true) } : Oper)) (v := ?_) rfl (by kernel_rfl) (by kernel_rfl) (by kernel_rfl) (fun _ _ _ h => h) (Or.inl ⟨by rfl, ?_⟩) trivial ?_
  rotate_left
  · intro w' _
    go_simp
    try with_reducible rfl
  try simp only [Act.put, List.setIfInBounds_toArray, List.set_cons_zero, List.set_cons_succ]
  refine wpAnyH_take (i := 12) (oi := ({ dst := some 94, op := Op.move (Operand.tmp 10), type := 3, pos := "law.go:103", after := #[{ on := 7, ground := Ground.guard }], guard := some (7, true) } : Oper)) (v := ?_) rfl (by kernel_rfl) (by kernel_rfl) (by kernel_rfl) (fun _ _ _ h => h) (Or.inl ⟨by rfl, ?_⟩) trivial ?_
  rotate_left
  · intro w' _
    go_simp
    try with_reducible rfl
  try simp only [Act.put, List.setIfInBounds_toArray, List.set_cons_zero, List.set_cons_succ]
  refine wpAnyH_take (i := 13) (oi := ({ dst := some 95, op := Op.move (Operand.tmp 13), type := 3, pos := "law.go:103", after := #[{ on := 7, ground := Ground.guard }], guard := some (7, true) } : Oper)) (v := ?_) rfl (by kernel_rfl) (by kernel_rfl) (by kernel_rfl) (fun _ _ _ h => h) (Or.inl ⟨by rfl, ?_⟩) trivial ?_
  rotate_left
  · intro w' _
    go_simp
    try with_reducible rfl
  try simp only [Act.put, List.setIfInBounds_toArray, List.set_cons_zero, List.set_cons_succ]
  refine wpAnyH_take (i := 14) (oi := ({ dst := some 96, op := Op.binOp BinOp.add 3 (Operand.tmp 94) (Operand.tmp 95) 3, type := 3, pos := "law.go:103", after := #[{ on := 12, ground := Ground.data }, { on := 13, ground := Ground.data }, { on := 7, ground := Ground.guard }], guard := some (7, true) } : Oper)) (v := ?_) rfl (by kernel_rfl) (by kernel_rfl) (by kernel_rfl) (fun _ _ _ h => h) (Or.inl ⟨by rfl, ?_⟩) trivial ?_
  rotate_left
  · intro w' _
    go_simp
    try with_reducible rfl
  try simp only [Act.put, List.setIfInBounds_toArray, List.set_cons_zero, List.set_cons_succ]
  refine wpAnyH_take (i := 15) (oi := ({ dst := some 97, op := Op.slice 9 (Operand.tmp 92) (some (Operand.tmp 93)) (some (Operand.tmp 96)) none, type := 9, pos := "law.go:103", after := #[{ on := 10, ground := Ground.data }, { on := 11, ground := Ground.data }, { on := 14, ground := Ground.data }, { on := 7, ground := Ground.guard }], guard := some (7, true) } : Oper)) (v := ?_) rfl (by kernel_rfl) (by kernel_rfl) (by kernel_rfl) (fun _ _ _ h => h) (Or.inl ⟨by rfl, ?_⟩) trivial ?_
  rotate_left
  · intro w' _
    go_simp
    try with_reducible rfl
  try simp only [Act.put, List.setIfInBounds_toArray, List.set_cons_zero, List.set_cons_succ]
  refine wpAnyH_ready (rs := [9]) (by kernel_rfl) (by simp) ?_
  refine AllReadyH.cons (o := ({ dst := some 91, op := Op.call { callee := Callee.value (Operand.func 14), args := #[Operand.tmp 90], argTypes := #[3] }, type := 9, pos := "law.go:103", after := #[{ on := 8, ground := Ground.data }, { on := 7, ground := Ground.chain }, { on := 7, ground := Ground.guard }], guard := some (7, true) } : Oper)) rfl (fun K hK => ?_) AllReadyH.nil
  go_simp
  refine (cT'.out _).mono ?_
  rintro e W1 ⟨rfl, h1⟩
  have b1 : Below w7.heap.size w7 W1 := hR.drew.trans h1
  go_wp2_with fail
  refine hK.out _ _ trivial (fun _ => ?_)
  clear hK K
  try simp only [Act.put, List.setIfInBounds_toArray, List.set_cons_zero, List.set_cons_succ]
  refine wpAnyH_take (i := 16) (oi := ({ dst := some 98, op := Op.binOp BinOp.neq 9 (Operand.tmp 91) (Operand.tmp 97) 9, type := 4, pos := "law.go:103", after := #[{ on := 9, ground := Ground.data }, { on := 15, ground := Ground.data }, { on := 7, ground := Ground.guard }], guard := some (7, true) } : Oper)) (v := ?_) rfl (by kernel_rfl) (by kernel_rfl) (by kernel_rfl) (fun _ _ _ h => h) (Or.inl ⟨by rfl, ?_⟩) trivial ?_
  rotate_left
  · intro w' _
    go_simp
    try with_reducible rfl
  try simp only [Act.put, List.setIfInBounds_toArray, List.set_cons_zero, List.set_cons_succ]
  refine wpAnyH_take (i := 17) (oi := ({ dst := some 99, op := Op.pick (Operand.tmp 89) (Operand.tmp 98) (Operand.const (Value.bool false)), type := 4, pos := "law.go:103", after := #[{ on := 7, ground := Ground.data }, { on := 16, ground := Ground.data }], guard := none } : Oper)) (v := ?_) rfl (by kernel_rfl) (by kernel_rfl) (by kernel_rfl) (fun _ _ _ h => h) (Or.inl ⟨by rfl, ?_⟩) trivial ?_
  rotate_left
  · intro w' _
    go_simp
    try with_reducible rfl
  try simp only [Act.put, List.setIfInBounds_toArray, List.set_cons_zero, List.set_cons_succ]
  refine wpAnyH_take (i := 18) (oi := ({ dst := some 100, op := Op.move (Operand.tmp 99), type := 4, pos := "law.go:103", after := #[{ on := 17, ground := Ground.data }, { on := 9, ground := Ground.chain }], guard := none } : Oper)) (v := ?_) rfl (by kernel_rfl) (by kernel_rfl) (by kernel_rfl) (fun _ _ _ h => h) (Or.inl ⟨by rfl, ?_⟩) trivial ?_
  rotate_left
  · intro w' _
    go_simp
    try with_reducible rfl
  try simp only [Act.put, List.setIfInBounds_toArray, List.set_cons_zero, List.set_cons_succ]
  refine wpAnyH_take (i := 19) (oi := ({ dst := some 101, op := Op.move (Operand.tmp 1), type := 3, pos := "law.go:103", after := #[{ on := 18, ground := Ground.guard }], guard := some (18, false) } : Oper)) (v := ?_) rfl (by kernel_rfl) (by kernel_rfl) (by kernel_rfl) (fun _ _ _ h => h) (Or.inl ⟨by rfl, ?_⟩) trivial ?_
  rotate_left
  · intro w' _
    go_simp
    try with_reducible rfl
  try simp only [Act.put, List.setIfInBounds_toArray, List.set_cons_zero, List.set_cons_succ]
  refine wpAnyH_take (i := 20) (oi := ({ dst := some 102, op := Op.move (Operand.tmp 7), type := 3, pos := "law.go:103", after := #[{ on := 18, ground := Ground.guard }], guard := some (18, false) } : Oper)) (v := ?_) rfl (by kernel_rfl) (by kernel_rfl) (by kernel_rfl) (fun _ _ _ h => h) (Or.inl ⟨by rfl, ?_⟩) trivial ?_
  rotate_left
  · intro w' _
    go_simp
    try with_reducible rfl
  try simp only [Act.put, List.setIfInBounds_toArray, List.set_cons_zero, List.set_cons_succ]
  refine wpAnyH_take (i := 21) (oi := ({ dst := some 103, op := Op.binOp BinOp.gtr 3 (Operand.tmp 101) (Operand.tmp 102) 3, type := 4, pos := "law.go:103", after := #[{ on := 19, ground := Ground.data }, { on := 20, ground := Ground.data }, { on := 18, ground := Ground.guard }], guard := some (18, false) } : Oper)) (v := ?_) rfl (by kernel_rfl) (by kernel_rfl) (by kernel_rfl) (fun _ _ _ h => h) (Or.inl ⟨by rfl, ?_⟩) trivial ?_
  rotate_left
  · intro w' _
    go_simp
    try with_reducible rfl
  try simp only [Act.put, List.setIfInBounds_toArray, List.set_cons_zero, List.set_cons_succ]
  refine wpAnyH_take (i := 22) (oi := ({ dst := some 104, op := Op.move (Operand.tmp 103), type := 4, pos := "law.go:103", after := #[{ on := 21, ground := Ground.data }, { on := 18, ground := Ground.chain }, { on := 18, ground := Ground.guard }], guard := some (18, false) } : Oper)) (v := ?_) rfl (by kernel_rfl) (by kernel_rfl) (by kernel_rfl) (fun _ _ _ h => h) (Or.inl ⟨by rfl, ?_⟩) trivial ?_
  rotate_left
  · intro w' _
    go_simp
    try with_reducible rfl
  try simp only [Act.put, List.setIfInBounds_toArray, List.set_cons_zero, List.set_cons_succ]
  refine wpAnyH_take (i := 23) (oi := ({ dst := some 105, op := Op.move (Operand.tmp 13), type := 3, pos := "law.go:103", after := #[{ on := 22, ground := Ground.guard }], guard := some (22, true) } : Oper)) (v := undef) rfl (by kernel_rfl) (by kernel_rfl) (by kernel_rfl) (fun _ _ _ h => h) (Or.inr ⟨by rfl, rfl⟩) trivial ?_
  try simp only [Act.put, List.setIfInBounds_toArray, List.set_cons_zero, List.set_cons_succ]
  refine wpAnyH_take (i := 24) (oi := ({ dst := some 106, op := Op.binOp BinOp.neq 3 (Operand.tmp 105) (Operand.const (Value.int IntKind.i64 0)) 3, type := 4, pos := "law.go:103", after := #[{ on := 23, ground := Ground.data }, { on := 22, ground := Ground.guard }], guard := some (22, true) } : Oper)) (v := undef) rfl (by kernel_rfl) (by kernel_rfl) (by kernel_rfl) (fun _ _ _ h => h) (Or.inr ⟨by rfl, rfl⟩) trivial ?_
  try simp only [Act.put, List.setIfInBounds_toArray, List.set_cons_zero, List.set_cons_succ]
  refine wpAnyH_take (i := 25) (oi := ({ dst := some 107, op := Op.pick (Operand.tmp 104) (Operand.tmp 106) (Operand.const (Value.bool false)), type := 4, pos := "law.go:103", after := #[{ on := 22, ground := Ground.data }, { on := 24, ground := Ground.data }, { on := 18, ground := Ground.guard }], guard := some (18, false) } : Oper)) (v := ?_) rfl (by kernel_rfl) (by kernel_rfl) (by kernel_rfl) (fun _ _ _ h => h) (Or.inl ⟨by rfl, ?_⟩) trivial ?_
  rotate_left
  · intro w' _
    go_simp
    try with_reducible rfl
  try simp only [Act.put, List.setIfInBounds_toArray, List.set_cons_zero, List.set_cons_succ]
  refine wpAnyH_take (i := 26) (oi := ({ dst := some 108, op := Op.pick (Operand.tmp 100) (Operand.const (Value.bool true)) (Operand.tmp 107), type := 4, pos := "law.go:103", after := #[{ on := 18, ground := Ground.data }, { on := 25, ground := Ground.data }], guard := none } : Oper)) (v := ?_) rfl (by kernel_rfl) (by kernel_rfl) (by kernel_rfl) (fun _ _ _ h => h) (Or.inl ⟨by rfl, ?_⟩) trivial ?_
  rotate_left
  · intro w' _
    go_simp
    try with_reducible rfl
  try simp only [Act.put, List.setIfInBounds_toArray, List.set_cons_zero, List.set_cons_succ]
  refine wpAnyH_done (by kernel_rfl) ?_ _
  refine NoPanic.normal ?_
  all_goals
    have hB := hB.trans (b1.mono hB.size)
    clear s1 s2 s3 s4 s5 s6 s7 s8 s9
    go_wp2_with fail
    refine (cI'.out _ (HTW.out _ hB)).mono ?_
    rintro e w8 ⟨⟨r, rfl, hr⟩, hn⟩
    have hB := hB.trans (hn.mono hB.size)
    obtain ⟨r1, r2⟩ := HIX.out r hr
    have r3 : (r : Int) ≤ (m : Int) + 1 := by omega
    clear hn hr
    go_wp2
    go_ret
    exact ⟨rfl, hB⟩
end Go.Proofs.YtaemijgfngdjlaaDoor
