/- Contracts of layer 1: Mapped of the definition. -/
import Derived.Deep.RegionLaw
import Derived.Lib.LazyBuf
import Derived.Lib.AppendStr
import Derived.Lib.BufferRead
import Derived.Test.YthlhlaolanemfaaDoorUstrS
import Derived.Test.YthlhlaolanemfaaDoorUstrT
namespace Go.Proofs.YthlhlaolanemfaaDoor
open Go.RowKit Go.Lib

/-- Bytes as cells. -/
def BV (l : List UInt8) : List Value := l.map fun x => Value.int .u8 x.toNat
theorem BV_app (a b : List UInt8) : BV (a ++ b) = BV a ++ BV b := by simp [BV]
theorem strCells_BV (s : ByteArray) : strCells s = BV s.data.toList := by simp [strCells, BV]
theorem info_u8 : (Tryd.prog.info? 5).map (fun i => (i.zero, i.size, i.bytes)) = some (some (.int .u8 0), 1, 1) := by kernel_rfl

/-- 'string(b)' of a row of the call's own. -/
theorem conv_own (W : World) (base : Nat) (v : Value) (l : List UInt8) (hown : W.ownsRow base 5 1 v l.length (BV l)) :
    (convert 51 9 v).run Tryd.prog W = .ok (.string ⟨l.toArray⟩) W := by
  rcases hown.2 with ⟨rfl, h0⟩ | ⟨g, cap, cur, rfl, _⟩
  · have : l = [] := List.eq_nil_of_length_eq_zero h0
    subst this
    exact run_convert_nil_bytes W 51 9 5 0 Tryd.underlying51 Tryd.underlying5 Tryd.underlying9
  · refine run_convert_bytes_back (P := Tryd.prog) W 51 9 5 ⟨g, 0, none⟩ cap l Tryd.underlying51 Tryd.underlying5 Tryd.underlying9 (fun j hj => ?_)
    exact hown.cells (g := g) rfl j _ (by simp [BV, hj])

/-- 'append' as a step of a region that draws, by a known run. -/
theorem step_append_run {P : Program} {ops : Array Oper} {o : Oper} {a : Act} {w : World} {K : Act → World → Prop} {Q : Exit → Act → World → Prop} {E : Prop}
    (hg : o.guard = none) (d x : Operand) (dT sT : TypeId) (hop : o.op = Op.call { callee := Callee.builtin Builtin.append, args := #[d, x], argTypes := #[dT, sT] })
    (v : Value) (hd : a.eval d = v) (t : ByteArray) (hx : a.eval x = .string t) (v' : Value) (w' : World) (hrun : (Builtin.append_ #[dT, sT] o.type #[v, .string t]).run P w = .ok v' w')
    (hK : K (a.put o.dst v') w') : if Region.wanted o (yielded ops a.tmps) = true then Oper.wp P o a w K Q else E := by
  have hw : Region.wanted o (yielded ops a.tmps) = true := by simp [Region.wanted, hg]
  rw [if_pos hw]
  unfold Oper.wp
  simp [execOp, hop, resolve, invoke, builtin, hd, hx, hrun, Result.andThen]
  exact hK

/-- The row with one piece more. -/
theorem own_piece {W : World} {base : Nat} {v : Value} {R X R1 : List UInt8} {n : Nat} {cs : List Value} (h : W.ownsRow base 5 1 v (R.length + n) (BV R ++ cs)) (hn : n = X.length) (hc : cs = BV X) (h1 : R1 = R ++ X) :
    W.ownsRow base 5 1 v R1.length (BV R1) := by
  subst hc; subst h1; subst hn
  rw [List.length_append, BV_app]
  exact h

/-- Fold or raise. -/
def mapZ (up : Bool) (b : Bool) (c : Int) : Int := if up then raiseZ c b else foldZ c b
theorem let_map (up b : Bool) : LetMap b (mapZ up b) := by
  cases up
  · exact let_fold b
  · exact let_raise b

set_option maxRecDepth 100000 in
set_option maxHeartbeats 1000000 in
theorem mapped_any (s : ByteArray) (b up : Bool) (w : World) (hs : s.size ≤ 1048576) :
    Calls Tryd.prog 27 #[.string s, .bool b, .bool up] w fun e w' => e = .returned (.string (recB s b (mapZ up b))) ∧ Below w.heap.size w w' := by
  have CS := Lib.hid (starts_row s b w hs)
  obtain ⟨i0, hi, hz0, hz1, hz2⟩ := info_parts info_u8
  have hcl := cnt_le s b
  go_enter Tryd.func27, Tryd.ntmps27
  go_wp2_with fail
  refine CS.out.mono ?_
  rintro e w1 ⟨g, cap, rfl, hcap, hg, hc, hB⟩
  have hc0 := Lib.hid hc
  clear hc CS
  have hgl : g < w1.heap.size := lt_of_cell (hc0.out 0 (Nat.zero_le _))
  go_wp2
  go_loopw [7, 9] (fun v i wr => ∃ k : Nat, k ≤ cnt s b ∧ i = .int .i64 k ∧ wr.ownsRow w1.heap.size 5 1 v (recL s b (mapZ up b) k).length (BV (recL s b (mapZ up b) k)) ∧ Below w1.heap.size w1 wr) (fun _ i _ => cnt s b - (RowKit.intOf i).toNat)
  case atStart => exact ⟨0, Nat.zero_le _, rfl, World.ownsRow_nil _ _ _ _, Below.refl _ _⟩
  case round =>
    obtain ⟨k, hk, rfl, hown, hB1⟩ := hrel
    have hsz := hB1.size
    by_cases hlt : k < cnt s b
    · have hplt := (cnt_spec s b k).2 hlt
      have hw1 := wid_in s b _ hplt
      have hlen := recL_len s b (mapZ up b) ((let_map up b).keeps s) k (by omega)
      have cN := fun (W : World) => refNext_any s (pl s b k : Nat) b W (by omega)
      rw [nextZ_eq] at cN
      have ca : wr.cell? ⟨g, k, none⟩ = some (.int .i64 (pl s b k)) := (hB1.cell (p := ⟨g, k, none⟩) hgl).trans (hc0.out k (by omega))
      have cb : wr.cell? ⟨g, k + 1, none⟩ = some (.int .i64 (pl s b (k + 1))) := (hB1.cell (p := ⟨g, k + 1, none⟩) hgl).trans (hc0.out (k + 1) (by omega))
      have cF := fun (W : World) => refFold_any (cod s b (pl s b k)) b W
      have cC := fun (W : World) => refCapital_any (cod s b (pl s b k)) b W
      have hpc := piece_len s b (mapZ up b) ((let_map up b).keeps s) k hlt
      have hptx := piece_tx s b (mapZ up b) (let_map up b) k hlt
      have hpsame : mapZ up b (cod s b (pl s b k)) = cod s b (pl s b k) → piece s b (mapZ up b) k = (s.extract (pl s b k) (pl s b (k + 1))).data.toList := fun h => by
        rw [piece, if_pos h, Lib.extract_data, pl_succ, Nat.add_sub_cancel_left]
      have hsucc := recL_succ s b (mapZ up b) k
      have hp1 := pl_succ s b k
      have hcd := cod_le s b (pl s b k)
      have hw4 := wid_le4 s b (pl s b k)
      have hlm := let_map up b (cod s b (pl s b k))
      obtain ⟨C, hC⟩ : ∃ C, cod s b (pl s b k) = C := ⟨_, rfl⟩
      obtain ⟨S, hS⟩ : ∃ S, wid s b (pl s b k) = S := ⟨_, rfl⟩
      obtain ⟨p, hp⟩ : ∃ p, pl s b k = p := ⟨_, rfl⟩
      obtain ⟨q, hq⟩ : ∃ q, pl s b (k + 1) = q := ⟨_, rfl⟩
      obtain ⟨R, hR⟩ : ∃ R, recL s b (mapZ up b) k = R := ⟨_, rfl⟩
      obtain ⟨R1, hR1⟩ : ∃ R1, recL s b (mapZ up b) (k + 1) = R1 := ⟨_, rfl⟩
      obtain ⟨X, hX⟩ : ∃ X, piece s b (mapZ up b) k = X := ⟨_, rfl⟩
      rw [hC] at cN cF cC hptx hpsame hcd hlm
      rw [hS] at cN hw1 hpc hp1 hw4
      rw [hX] at hpc hptx hpsame hsucc
      rw [hR1, hR] at hsucc
      rw [hR] at hown hlen
      rw [hq] at cb hpsame hp1
      rw [hp] at cN ca hpsame hp1 hw1 hlen hplt
      obtain ⟨q1, q2⟩ := hw1
      have HR1 := Lib.hid hR1
      clear hC hS hp hq hR hR1 hX
      subst hsucc
      have hRX : (R ++ X).length = R.length + X.length := List.length_append
      obtain ⟨F0, hF0⟩ : ∃ F0, foldZ C b = F0 := ⟨_, rfl⟩
      obtain ⟨D, hD⟩ : ∃ D, mapZ up b C = D := ⟨_, rfl⟩
      rw [hD] at hptx hpsame hlm
      have cT := fun (W : World) => refText_any D W
      have HC0 := Lib.hid hc0.out; clear hc0
      have CN := Lib.hid cN; clear cN
      have CT := Lib.hid cT; clear cT
      have hq' : q ≤ s.size := by omega
      have hpq : p ≤ q := by omega
      have HP1 := Lib.hid hp1; clear hp1
      have HPS := Lib.hid hpsame; clear hpsame
      have HTX := Lib.hid hptx; clear hptx
      have HLM := Lib.hid hlm; clear hlm
      have HRX := Lib.hid hRX; clear hRX
      have HPC := Lib.hid hpc; clear hpc
      have HLN := Lib.hid hlen; clear hlen
      cases up
      · have hFD : F0 = D := by rw [← hF0, ← hD]; rfl
        subst hFD
        rw [hF0] at cF
        have CF := Lib.hid cF; clear cF cC hF0 hD
        by_cases heq : F0 = C
        · have hX := HPS.out heq
          subst heq
          have HX := Lib.hid hX; clear hX
          go_wp2_with (first | (go_at_call 13; refine (CN.out _).mono ?_; rintro e w' ⟨rfl, rfl⟩) | (go_at_call 30; refine (CF.out _).mono ?_; rintro e w' ⟨rfl, rfl⟩))
          have hex : (s.extract p q).size = q - p := by rw [ByteArray.size_extract]; omega
          obtain ⟨v', w2, hr, hown2, hgrow, _⟩ := run_append_own_string (P := Tryd.prog) wr.drew w1.heap.size 51 9 51 5 i0 Tryd.underlying51 Tryd.underlying9 hi hz0 hz1 hz2 u7 R.length (BV R) hown.drew (s.extract p q) (by have := HLN.out; unfold maxLen; omega) (by have := HLN.out; omega) hsz
          have hB2 : Below w1.heap.size w1 w2 := (hB1.drew).grown hgrow hsz (fun r e => (hown.lt r e).1)
          have HO := Lib.hid hown2; clear hown2 hown hex hgrow
          have HR := Lib.hid hr; clear hr
          have s1 : IntKind.i64.wrap ((k : Int) + 1) = (k : Int) + 1 := IntWalk.i64_in _ (by omega)
          have s2 : 0 ≤ (k : Int) + 1 := by omega
          have s3 : ((k : Int) + 1).toNat = k + 1 := by omega
          have s4 : (k : Int) + 1 < (cnt s b : Int) + 1 := by omega
          have s5 : (k : Int) < (cnt s b : Int) + 1 := by omega
          have s6 : (k : Int) < (cnt s b : Int) := by omega
          go_region_law (refine step_append_run rfl (.tmp 43) (.tmp 54) 51 9 rfl u7 (by simp [Act.eval, Act.put]) (s.extract p q) (by simp [Act.eval, Act.put]) v' w2 HR.out ?_)
          all_goals
            clear s1 s2 s3 s4 s5 s6
            go_wp2
            go_roundw
            case rel => exact ⟨k + 1, by omega, by go_num, own_piece HO.out (by rw [HX.out, Lib.size_eq]) (by rw [strCells_BV, HX.out]) HR1.out, hB2⟩
            case measure => simp [RowKit.intOf]; omega
        · have hne : (F0 == (C : Int)) = false := by simpa using heq
          have hD1 : 0 ≤ F0 ∧ F0 ≤ 255 := by
            rcases HLM.out heq with h | h <;> omega
          obtain ⟨hD1, hD2⟩ := hD1
          cases b
          · have hX := HTX.out
            simp only [tx, Bool.false_eq_true, if_false] at hX
            have HX := Lib.hid hX; clear hX heq
            go_wp2_with (first | (go_at_call 13; refine (CN.out _).mono ?_; rintro e w' ⟨rfl, rfl⟩) | (go_at_call 30; refine (CF.out _).mono ?_; rintro e w' ⟨rfl, rfl⟩))
            refine (CT.out _).mono ?_
            rintro e w2 ⟨rfl, hbT⟩
            obtain ⟨T, hT⟩ : ∃ T, textB F0 = T := ⟨_, rfl⟩
            rw [hT]
            have HT := Lib.hid hT; clear hT
            have hown3 : w2.ownsRow w1.heap.size 5 1 u7 R.length (BV R) := hown.kept (grown_of_below hbT) (by cases u7.ownBlock <;> simp)
            have hB3 : Below w1.heap.size w1 w2 := hB1.trans (hbT.mono hsz)
            have hsz3 := hB3.size
            have hTz : T.size ≤ 4 := by
              have := congrArg List.length HX.out
              rw [HT.out, HPC.out, ← Lib.size_eq] at this
              omega
            clear hown hB1 hbT
            go_wp2_with (at_builtin; refine Go.Lib.wpList_append_own_string _ rfl _ _ 51 9 rfl w1.heap.size 5 i0 Tryd.underlying51 Tryd.underlying9 hi hz0 hz1 hz2 _ R.length (BV R) rfl hown3 T rfl ?c3 ?c4 hsz3 ?_)
            case c3 => have := HLN.out; unfold maxLen; omega
            case c4 => have := HLN.out; omega
            intro v' w3 hown' hgrow _
            have hB4 : Below w1.heap.size w1 w3 := hB3.grown hgrow hsz3 (fun r e => (hown3.lt r e).1)
            have HO := Lib.hid hown'; clear hown' hown3 hgrow
            go_wp2
            go_roundw
            case rel => exact ⟨k + 1, by omega, by go_num, own_piece HO.out (by rw [HX.out, HT.out, Lib.size_eq]) (by rw [strCells_BV, HX.out, HT.out]) HR1.out, hB4⟩
            case measure => simp [RowKit.intOf]; omega
          · have hX := HTX.out
            simp only [tx, if_true] at hX
            have HX := Lib.hid hX; clear hX heq
            go_wp2_with (first | (go_at_call 13; refine (CN.out _).mono ?_; rintro e w' ⟨rfl, rfl⟩) | (go_at_call 30; refine (CF.out _).mono ?_; rintro e w' ⟨rfl, rfl⟩) | (at_builtin; refine wpList_append_own _ rfl _ _ 51 rfl w1.heap.size 5 i0 (.int .u8 0) 1 1 Tryd.underlying51 hi hz0 hz1 hz2 rfl (by decide) _ _ _ rfl (hown.alloc _) ⟨wr.heap.size, 0, none⟩ 1 1 [.int .u8 F0] rfl rfl (cell_one_new _ _ _) ?c2 ?c3 ?c4 ?c5 ?_))
            case c2 => simp [Value.oneCell']
            case c3 => have := HLN.out; unfold maxLen; omega
            case c4 => have := HLN.out; omega
            case c5 => first | omega | (simp; omega)
            intro v' w3 hown' hgrow _
            have hB4 : Below w1.heap.size w1 w3 := (hB1.alloc hsz _).grown hgrow (by simp; omega) (fun r e => (hown.lt r e).1)
            have HO := Lib.hid hown'; clear hown' hown hgrow
            go_wp2
            go_roundw
            case rel => exact ⟨k + 1, by omega, by go_num, own_piece HO.out (by rw [HX.out]; rfl) (by rw [HX.out]; simp [BV]; omega) HR1.out, hB4⟩
            case measure => simp [RowKit.intOf]; omega
      · have hFD : raiseZ C b = D := by rw [← hD]; rfl
        rw [hF0] at cF
        rw [hFD] at cC
        have CF := Lib.hid cF; clear cF hF0 hD hFD
        have CC := Lib.hid cC; clear cC
        by_cases heq : D = C
        · have hX := HPS.out heq
          subst heq
          have HX := Lib.hid hX; clear hX
          go_wp2_with (first | (go_at_call 13; refine (CN.out _).mono ?_; rintro e w' ⟨rfl, rfl⟩) | (go_at_call 30; refine (CF.out _).mono ?_; rintro e w' ⟨rfl, rfl⟩) | (go_at_call 42; refine (CC.out _).mono ?_; rintro e w' ⟨rfl, rfl⟩))
          have hex : (s.extract p q).size = q - p := by rw [ByteArray.size_extract]; omega
          obtain ⟨v', w2, hr, hown2, hgrow, _⟩ := run_append_own_string (P := Tryd.prog) wr.drew w1.heap.size 51 9 51 5 i0 Tryd.underlying51 Tryd.underlying9 hi hz0 hz1 hz2 u7 R.length (BV R) hown.drew (s.extract p q) (by have := HLN.out; unfold maxLen; omega) (by have := HLN.out; omega) hsz
          have hB2 : Below w1.heap.size w1 w2 := (hB1.drew).grown hgrow hsz (fun r e => (hown.lt r e).1)
          have HO := Lib.hid hown2; clear hown2 hown hex hgrow
          have HR := Lib.hid hr; clear hr
          have s1 : IntKind.i64.wrap ((k : Int) + 1) = (k : Int) + 1 := IntWalk.i64_in _ (by omega)
          have s2 : 0 ≤ (k : Int) + 1 := by omega
          have s3 : ((k : Int) + 1).toNat = k + 1 := by omega
          have s4 : (k : Int) + 1 < (cnt s b : Int) + 1 := by omega
          have s5 : (k : Int) < (cnt s b : Int) + 1 := by omega
          have s6 : (k : Int) < (cnt s b : Int) := by omega
          go_region_law (refine step_append_run rfl (.tmp 43) (.tmp 54) 51 9 rfl u7 (by simp [Act.eval, Act.put]) (s.extract p q) (by simp [Act.eval, Act.put]) v' w2 HR.out ?_)
          all_goals
            clear s1 s2 s3 s4 s5 s6
            go_wp2
            go_roundw
            case rel => exact ⟨k + 1, by omega, by go_num, own_piece HO.out (by rw [HX.out, Lib.size_eq]) (by rw [strCells_BV, HX.out]) HR1.out, hB2⟩
            case measure => simp [RowKit.intOf]; omega
        · have hne : (D == (C : Int)) = false := by simpa using heq
          have hD1 : 0 ≤ D ∧ D ≤ 255 := by
            rcases HLM.out heq with h | h <;> omega
          obtain ⟨hD1, hD2⟩ := hD1
          cases b
          · have hX := HTX.out
            simp only [tx, Bool.false_eq_true, if_false] at hX
            have HX := Lib.hid hX; clear hX heq
            go_wp2_with (first | (go_at_call 13; refine (CN.out _).mono ?_; rintro e w' ⟨rfl, rfl⟩) | (go_at_call 30; refine (CF.out _).mono ?_; rintro e w' ⟨rfl, rfl⟩) | (go_at_call 42; refine (CC.out _).mono ?_; rintro e w' ⟨rfl, rfl⟩))
            refine (CT.out _).mono ?_
            rintro e w2 ⟨rfl, hbT⟩
            obtain ⟨T, hT⟩ : ∃ T, textB D = T := ⟨_, rfl⟩
            rw [hT]
            have HT := Lib.hid hT; clear hT
            have hown3 : w2.ownsRow w1.heap.size 5 1 u7 R.length (BV R) := hown.kept (grown_of_below hbT) (by cases u7.ownBlock <;> simp)
            have hB3 : Below w1.heap.size w1 w2 := hB1.trans (hbT.mono hsz)
            have hsz3 := hB3.size
            have hTz : T.size ≤ 4 := by
              have := congrArg List.length HX.out
              rw [HT.out, HPC.out, ← Lib.size_eq] at this
              omega
            clear hown hB1 hbT
            go_wp2_with (at_builtin; refine Go.Lib.wpList_append_own_string _ rfl _ _ 51 9 rfl w1.heap.size 5 i0 Tryd.underlying51 Tryd.underlying9 hi hz0 hz1 hz2 _ R.length (BV R) rfl hown3 T rfl ?c3 ?c4 hsz3 ?_)
            case c3 => have := HLN.out; unfold maxLen; omega
            case c4 => have := HLN.out; omega
            intro v' w3 hown' hgrow _
            have hB4 : Below w1.heap.size w1 w3 := hB3.grown hgrow hsz3 (fun r e => (hown3.lt r e).1)
            have HO := Lib.hid hown'; clear hown' hown3 hgrow
            go_wp2
            go_roundw
            case rel => exact ⟨k + 1, by omega, by go_num, own_piece HO.out (by rw [HX.out, HT.out, Lib.size_eq]) (by rw [strCells_BV, HX.out, HT.out]) HR1.out, hB4⟩
            case measure => simp [RowKit.intOf]; omega
          · have hX := HTX.out
            simp only [tx, if_true] at hX
            have HX := Lib.hid hX; clear hX heq
            go_wp2_with (first | (go_at_call 13; refine (CN.out _).mono ?_; rintro e w' ⟨rfl, rfl⟩) | (go_at_call 30; refine (CF.out _).mono ?_; rintro e w' ⟨rfl, rfl⟩) | (go_at_call 42; refine (CC.out _).mono ?_; rintro e w' ⟨rfl, rfl⟩) | (at_builtin; refine wpList_append_own _ rfl _ _ 51 rfl w1.heap.size 5 i0 (.int .u8 0) 1 1 Tryd.underlying51 hi hz0 hz1 hz2 rfl (by decide) _ _ _ rfl (hown.alloc _) ⟨wr.heap.size, 0, none⟩ 1 1 [.int .u8 D] rfl rfl (cell_one_new _ _ _) ?c2 ?c3 ?c4 ?c5 ?_))
            case c2 => simp [Value.oneCell']
            case c3 => have := HLN.out; unfold maxLen; omega
            case c4 => have := HLN.out; omega
            case c5 => first | omega | (simp; omega)
            intro v' w3 hown' hgrow _
            have hB4 : Below w1.heap.size w1 w3 := (hB1.alloc hsz _).grown hgrow (by simp; omega) (fun r e => (hown.lt r e).1)
            have HO := Lib.hid hown'; clear hown' hown hgrow
            go_wp2
            go_roundw
            case rel => exact ⟨k + 1, by omega, by go_num, own_piece HO.out (by rw [HX.out]; rfl) (by rw [HX.out]; simp [BV]; omega) HR1.out, hB4⟩
            case measure => simp [RowKit.intOf]; omega
    · obtain rfl : k = cnt s b := by omega
      have hcv := conv_own wr w1.heap.size _ _ hown
      clear hown hlt
      have HC0 := Lib.hid hc0.out; clear hc0
      go_wp2
      go_ret
      exact ⟨rfl, hB.trans (hB1.mono hB.size)⟩
end Go.Proofs.YthlhlaolanemfaaDoor
