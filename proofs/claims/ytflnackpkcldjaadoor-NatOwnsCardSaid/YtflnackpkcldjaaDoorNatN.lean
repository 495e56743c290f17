/- Contracts of layer 2: divLong. -/
import Derived.Outline
import Derived.Lib.BitFns
import Derived.Test.YtflnackpkcldjaaDoorNatL
import Derived.Test.YtflnackpkcldjaaDoorNatP
import Derived.Test.YtflnackpkcldjaaDoorNatA
namespace Go.Proofs.YtflnackpkcldjaaDoor
open Go.RowKit Go.Lib

theorem bitLenAux_bounds : ∀ (f x : Nat), x < 2 ^ f → x ≠ 0 → 0 < Lib.bitLenAux f x ∧ Lib.bitLenAux f x ≤ f ∧ 2 ^ (Lib.bitLenAux f x - 1) ≤ x ∧ x < 2 ^ Lib.bitLenAux f x
  | 0, x, h, h0 => by simp at h; exact absurd h h0
  | f + 1, x, h, h0 => by
    rw [Lib.bitLenAux, if_neg h0]
    by_cases h2 : x / 2 = 0
    · have hx1 : x = 1 := by omega
      subst hx1
      have : Lib.bitLenAux f (1 / 2) = 0 := by cases f <;> simp [Lib.bitLenAux]
      rw [this]
      simp
    · obtain ⟨a, b, c, d⟩ := bitLenAux_bounds f (x / 2) (by rw [Nat.pow_succ] at h; omega) h2
      obtain ⟨m, hm⟩ : ∃ m, Lib.bitLenAux f (x / 2) = m + 1 := ⟨Lib.bitLenAux f (x / 2) - 1, by omega⟩
      rw [hm] at b c d ⊢
      rw [show 1 + (m + 1) = m + 1 + 1 by omega]
      simp only [Nat.add_sub_cancel, Nat.pow_succ] at c d ⊢
      omega
/-- By how much a limb is shifted, lest its highest digit be 0. -/
theorem lead_spec {y : Nat} (h0 : y ≠ 0) (hy : y < 4294967296) : ∃ k : Nat, (32 : Int) - (Lib.bitLen y : Int) = (k : Int) ∧ k < 32 ∧ 2147483648 ≤ y * 2 ^ k ∧ (y + 1) * 2 ^ k ≤ 4294967296 := by
  have e : Lib.bitLen y = Lib.bitLenAux 32 y := Lib.bitLenAux_fuel 32 y hy 64 (by omega)
  obtain ⟨a, b, c, d⟩ := bitLenAux_bounds 32 y hy h0
  rw [← e] at a b c d
  refine ⟨32 - Lib.bitLen y, by omega, by omega, ?_, ?_⟩
  · have h := Nat.mul_le_mul_right (2 ^ (32 - Lib.bitLen y)) c
    rw [← Nat.pow_add, show Lib.bitLen y - 1 + (32 - Lib.bitLen y) = 31 by omega] at h
    exact h
  · have h := Nat.mul_le_mul_right (2 ^ (32 - Lib.bitLen y)) (Nat.succ_le_of_lt d)
    rw [← Nat.pow_add, show Lib.bitLen y + (32 - Lib.bitLen y) = 32 by omega] at h
    exact h

/-- How a division ends: two rows of the call's own, in two blocks. -/
def DivEnd (w : World) (a b : Nat) (m : Nat) (e : Ending) (w' : World) : Prop :=
  ∃ (v v' : Value) (qs rs : List Nat), e = .returned (.tuple #[v, v']) ∧ Own .u32 w' w.heap.size 47 v qs ∧ Own .u32 w' w.heap.size 47 v' rs ∧ Lim B32 qs ∧ Lim B32 rs ∧ vl B32 qs = a / b ∧ vl B32 rs = a % b ∧ qs.length ≤ m ∧ rs.length ≤ m ∧
    v.ownBlock ≠ v'.ownBlock ∧ Below w.heap.size w w'

theorem zeros_nums (n : Nat) : (madeCells (Value.int .u32 0).cells (n * 1)).toList = nums .u32 (List.replicate n 0) := by
  rw [Nat.mul_one]
  show (madeCells #[Value.int .u32 0] n).toList = _
  rw [toList_madeCells_one, nums, List.map_replicate]
  rfl
/-- A new block of noughts. -/
theorem at_made (w : World) (n : Nat) : At .u32 (w.alloc (.cells (madeCells (Value.int .u32 0).cells (n * 1)) 47)) w.heap.size 47 [] (List.replicate n 0) [] :=
  ⟨_, heap_alloc_new w _, by rw [zeros_nums]; simp⟩

/-- Two new blocks, one behind the other, and a draw. -/
theorem two_new (w : World) (n m : Nat) : At .u32 (((w.alloc (.cells (madeCells #[Value.int .u32 0] n) 47)).alloc (.cells (madeCells #[Value.int .u32 0] m) 47)).drew) w.heap.size 47 [] (List.replicate n 0) [] ∧
    At .u32 (((w.alloc (.cells (madeCells #[Value.int .u32 0] n) 47)).alloc (.cells (madeCells #[Value.int .u32 0] m) 47)).drew) (w.heap.size + 1) 47 [] (List.replicate m 0) [] ∧
    Below w.heap.size w (((w.alloc (.cells (madeCells #[Value.int .u32 0] n) 47)).alloc (.cells (madeCells #[Value.int .u32 0] m) 47)).drew) := by
  have a := at_made w n
  have b := at_made (w.alloc (.cells (madeCells #[Value.int .u32 0] n) 47)) m
  rw [Nat.mul_one] at a b
  have e : (w.alloc (.cells (madeCells #[Value.int .u32 0] n) 47)).heap.size = w.heap.size + 1 := by simp
  rw [e] at b
  exact ⟨(a.alloc _).drew, b.drew, (((Below.refl _ _).alloc (Nat.le_refl _) _).alloc (by simp) _).drew⟩

set_option maxRecDepth 100000 in
set_option maxHeartbeats 4000000 in
theorem divLong_any (A A' : Option Addr) (ca cb : Nat) (xs ys : List Nat) (w : World) (hx : Lim B32 xs) (hy : Norm B32 ys) (hy2 : 2 ≤ ys.length) (hl : ys.length ≤ xs.length) (hxn : xs.length ≤ 1000) (hra : Rd .u32 w A xs) (hrb : Rd .u32 w A' ys) :
    Calls Tryd.prog 44 #[.slice A xs.length ca, .slice A' ys.length cb] w (DivEnd w (vl B32 xs) (vl B32 ys) xs.length) := by
  obtain ⟨i0, hi, hz0, hz1, hz2⟩ := info_parts info_u32
  have hmk : ∀ (n : Nat) (W : World), n ≤ 100000 → (Instr.makeSlice 22 (.int .i64 (n : Int)) (.int .i64 (n : Int))).run Tryd.prog W = .ok (.slice (some ⟨W.heap.size, 0, none⟩) n n) (W.alloc (.cells (madeCells (Value.int .u32 0).cells (n * 1)) 47)) := fun n W hn => by
    have := run_make (P := Tryd.prog) W 22 47 i0 (.int .u32 0) Tryd.underlying22 hi hz0 .i64 .i64 (n : Int) (n : Int) (by omega) (by omega) (by rw [hz2]; omega) (by omega)
    rw [hz1] at this
    exact this
  obtain ⟨g', o', rfl, hcb⟩ := hrb.at_ (by intro e; rw [e] at hy2; simp at hy2)
  obtain ⟨g0, o0, rfl, _⟩ := hra.at_ (by intro e; rw [e] at hl; simp at hl; rw [hl] at hy2; simp at hy2)
  have hyt := (top_get (xs := ys) (by omega)).1 hy.2
  obtain ⟨y, hye, hyk⟩ := lim32 hy.1 (ys.length - 1) (by omega)
  have hc1 := hcb (ys.length - 1) (by omega)
  rw [hye] at hyt hc1
  obtain ⟨k, hk1, hk2, hk3, hk4⟩ := lead_spec hyt hyk
  have hmkl : ∀ W : World, (Instr.makeSlice 22 (.int .i64 ((xs.length : Int) + 1)) (.int .i64 ((xs.length : Int) + 1))).run Tryd.prog W = .ok (.slice (some ⟨W.heap.size, 0, none⟩) (xs.length + 1) (xs.length + 1)) (W.alloc (.cells (madeCells (Value.int .u32 0).cells ((xs.length + 1) * 1)) 47)) := fun W => hmk (xs.length + 1) W (by omega)
  have hmkb : ∀ W : World, (Instr.makeSlice 22 (.int .i64 (ys.length : Int)) (.int .i64 (ys.length : Int))).run Tryd.prog W = .ok (.slice (some ⟨W.heap.size, 0, none⟩) ys.length ys.length) (W.alloc (.cells (madeCells (Value.int .u32 0).cells (ys.length * 1)) 47)) := fun W => hmk ys.length W (by omega)
  obtain ⟨m, hm⟩ : ∃ m : Nat, m + ys.length = xs.length + 1 := ⟨xs.length + 1 - ys.length, by omega⟩
  have hmI : (xs.length : Int) - (ys.length : Int) + 1 = (m : Int) := by omega
  have hmkq : ∀ W : World, (Instr.makeSlice 22 (.int .i64 (m : Int)) (.int .i64 (m : Int))).run Tryd.prog W = .ok (.slice (some ⟨W.heap.size, 0, none⟩) m m) (W.alloc (.cells (madeCells (Value.int .u32 0).cells (m * 1)) 47)) := fun W => hmk m W (by omega)
  have HM := Lib.hid hm
  have hmb : m ≤ 2000 := by omega
  have hm1 : 1 ≤ m := by omega
  have HP := Lib.hid (show 2 ^ k ≤ B32 from (Nat.pow_le_pow_right (by omega) (show k ≤ 32 by omega) : 2 ^ k ≤ 2 ^ 32))
  have HXN := Lib.hid (show xs ≠ [] from List.ne_nil_of_length_pos (by omega))
  have HYN := Lib.hid (show ys ≠ [] from List.ne_nil_of_length_pos (by omega))
  have HYE := Lib.hid hye
  clear hm
  have cZ := Tryd.bits_LeadingZeros32 (y : Int) w (by omega) (by omega)
  rw [show ((y : Int)).toNat = y from rfl, hk1] at cZ
  have CZ := Lib.hid cZ
  clear cZ hk1
  have s1 : IntKind.i64.wrap ((xs.length : Int) + 1) = (xs.length : Int) + 1 := IntWalk.i64_in _ (by omega)
  clear hmk hcb hye
  go_enter Tryd.func44, Tryd.ntmps44
  go_wp2_with fail
  refine CZ.out.mono ?_
  rintro e w ⟨rfl, rfl⟩
  go_wp2
  go_region
  all_goals go_wp2_with fail
  all_goals
    first
    | (obtain ⟨fL, fB, fW⟩ := two_new w (xs.length + 1) ys.length
       obtain ⟨W1, hW⟩ : ∃ W1, (((w.alloc (.cells (madeCells #[Value.int .u32 0] (xs.length + 1)) 47)).alloc (.cells (madeCells #[Value.int .u32 0] ys.length) 47)).drew) = W1 := ⟨_, rfl⟩
       rw [hW] at fL fB fW
       rw [hW]
       clear hW
       obtain ⟨gb, hgb⟩ : ∃ gb, w.heap.size + 1 = gb := ⟨_, rfl⟩
       obtain ⟨gl, hgl⟩ : ∃ gl, w.heap.size = gl := ⟨_, rfl⟩
       have hbl : w.heap.size ≤ gl := by omega
       have hbb : w.heap.size ≤ gb := by omega
       have hne : gl ≠ gb := by omega
       rw [hgb] at fB
       rw [hgl] at fL
       rw [hgb, hgl]
       clear hgl hgb)
    | (obtain ⟨fB, fL, fW⟩ := two_new w ys.length (xs.length + 1)
       obtain ⟨W1, hW⟩ : ∃ W1, (((w.alloc (.cells (madeCells #[Value.int .u32 0] ys.length) 47)).alloc (.cells (madeCells #[Value.int .u32 0] (xs.length + 1)) 47)).drew) = W1 := ⟨_, rfl⟩
       rw [hW] at fL fB fW
       rw [hW]
       clear hW
       obtain ⟨gl, hgl⟩ : ∃ gl, w.heap.size + 1 = gl := ⟨_, rfl⟩
       obtain ⟨gb, hgb⟩ : ∃ gb, w.heap.size = gb := ⟨_, rfl⟩
       have hbl : w.heap.size ≤ gl := by omega
       have hbb : w.heap.size ≤ gb := by omega
       have hne : gl ≠ gb := by omega
       rw [hgb] at fB
       rw [hgl] at fL
       rw [hgl, hgb]
       clear hgl hgb)
  all_goals
    have c1 := shiftUp_any gl 0 (xs.length + 1) ca k (some ⟨g0, o0, none⟩) 47 [] [] (List.replicate (xs.length + 1) 0) xs W1 fL rfl (lim_zeros (by decide) _) hx (by simp; omega) (by simp) hk2 (hra.below fW) (fun _ => hra.off HXN.out hbl)
    rw [List.length_replicate] at c1
    refine c1.mono ?_
    clear c1
    rintro e W2 ⟨rfl, ⟨cur, c, hS, hl1, _, hA1⟩, hG1⟩
    rw [List.length_replicate] at hl1 hA1
    rw [putTop, if_pos (Nat.lt_succ_self _)] at hA1
    obtain ⟨b1, b2, b3⟩ := shu_more hS hl1 (HP.out)
    obtain ⟨As, hAs⟩ : ∃ As, cur.set xs.length c = As := ⟨_, rfl⟩
    rw [hAs] at hA1 b1 b2 b3
    have fB2 : At .u32 W2 gb 47 [] (List.replicate ys.length 0) [] := fB.kept hG1 (by simpa using hne.symm)
    have fW2 : Below w.heap.size w W2 := grown_below fW hG1 fW.size hbl
    have B2 := Lib.hid b2
    have B3 := Lib.hid b3
    clear hS hl1 hAs hG1 b2 b3 fL fB fW
    go_wp2_with fail
    have c2 := shiftUp_any gb 0 ys.length cb k (some ⟨g', o', none⟩) 47 [] [] (List.replicate ys.length 0) ys W2 fB2 rfl (lim_zeros (by decide) _) hy.1 (by simp; omega) (by simp) hk2 (hrb.below fW2) (fun _ => hrb.off HYN.out hbb)
    rw [List.length_replicate] at c2
    refine c2.mono ?_
    clear c2
    rintro e W3 ⟨rfl, ⟨Ds, c2, hS, hl1, _, hD1⟩, hG2⟩
    rw [List.length_replicate] at hl1 hD1
    rw [putTop, if_neg (Nat.lt_irrefl _)] at hD1
    obtain ⟨_, d2, d3, d4⟩ := shu_same (H := 2147483648) hS hl1 hy.1 (by omega) HYE.out hk3 hk4
    have dl := hS.2.2
    have fA3 : At .u32 W3 gl 47 [] As [] := hA1.kept hG2 (by simpa using hne)
    have fW3 : Below w.heap.size w W3 := grown_below fW2 hG2 fW2.size hbb
    rw [d2] at d4
    have D2 := Lib.hid d2
    have D3 := Lib.hid d3
    have D4 := Lib.hid d4
    have HDL := Lib.hid hl1
    clear hS d2 d3 d4 hl1 hG2 fB2 fW2 hA1
    go_wp2
    have fQ4 := at_made W3 m
    rw [Nat.mul_one] at fQ4
    have fA4 := fA3.alloc (.cells (madeCells (Value.int .u32 0).cells m) 47)
    have fB4 := hD1.alloc (.cells (madeCells (Value.int .u32 0).cells m) 47)
    have fW4 := fW3.alloc fW3.size (.cells (madeCells (Value.int .u32 0).cells m) 47)
    have nl := fA3.lt
    have nb := hD1.lt
    have nq := fW3.size
    have HS0 := Lib.hid (long_start (P := 2 ^ k) (m := m) (by decide) hx rfl rfl hy.2 (by omega) HM.out b1 B2.out B3.out (Nat.pow_pos (by omega)))
    obtain ⟨gq, hgq⟩ : ∃ gq, W3.heap.size = gq := ⟨_, rfl⟩
    rw [hgq] at nl nb nq
    rw [hgq] at fQ4
    rw [hgq]
    clear hgq fA3 hD1 fW3
    go_loopw [10] (fun i wr => ∃ (j : Nat) (cur qs : List Nat), j ≤ m ∧ i = .int .i64 ((j : Int) - 1) ∧ At .u32 wr gl 47 [] cur [] ∧ At .u32 wr gb 47 [] Ds [] ∧ At .u32 wr gq 47 [] qs [] ∧
        Long B32 (vl B32 ys * 2 ^ k) (vl B32 xs * 2 ^ k) cur qs j ∧ cur.length = xs.length + 1 ∧ qs.length = m ∧ Below w.heap.size w wr) (fun i _ => (RowKit.intOf i + 1).toNat)
    case atStart => exact ⟨m, As, List.replicate m 0, Nat.le_refl _, rfl, fA4, fB4, fQ4, HS0.out, B2.out, List.length_replicate, fW4⟩
    case round =>
      clear fA4 fB4 fQ4 fW4 HS0
      obtain ⟨j, cur, qs, hj, rfl, fA, fB, fQ, hL, hcl, hql, fW⟩ := hrel
      have HCL := Lib.hid hcl
      have HQL := Lib.hid hql
      clear hcl hql
      rcases j with _ | j
      · have HE := Lib.hid (long_end hL (Nat.pow_pos (by omega)) D4.out (by rw [HCL.out]; omega))
        have hlt : (cur.take ys.length).length = ys.length := by rw [List.length_take, HCL.out]; omega
        have fA' : At .u32 wr gl 47 [] (cur.take ys.length) (nums .u32 (cur.drop ys.length)) := fA.recut (by rw [List.nil_append, List.append_nil, List.nil_append, ← nums_append, List.take_append_drop])
        have c4 := shiftDown_any gl 0 (xs.length + 1) k 47 [] (nums .u32 (cur.drop ys.length)) (cur.take ys.length) wr fA' rfl (lim_take hL.lim _) (by omega) hk2
        rw [hlt] at c4
        have C4 := Lib.hid c4
        have HLT := Lib.hid hlt
        clear c4 hlt fA'
        go_wp2_with fail
        refine C4.out.mono ?_
        rintro e W5 ⟨rfl, ⟨cur5, v5, fA5, hS5⟩, hG5⟩
        have hv5 := hS5.2.1
        have hl5 := hS5.1.len
        rw [List.drop_zero, List.drop_zero] at hv5
        rw [HLT.out] at hl5
        have fQ5 : At .u32 W5 gq 47 [] qs [] := fQ.kept hG5 (by simp; omega)
        have fW5 : Below w.heap.size w W5 := grown_below fW hG5 fW.size hbl
        have o1 := own_of_at (B := w.heap.size) (cap := m) fQ5 nq (by rw [HQL.out]; simp) (by unfold maxLen; omega)
        have o2 := own_of_at (B := w.heap.size) (cap := xs.length + 1) fA5 hbl (by rw [hl5, nums_len, List.length_drop, HCL.out]; omega) (by unfold maxLen; omega)
        rw [HQL.out] at o1
        rw [hl5] at o2
        have O1 := Lib.hid o1
        have O2 := Lib.hid o2
        have V5 := Lib.hid hv5
        have L5 := Lib.hid hl5
        have ll := hS5.1.lim
        have lq := hL.qlim
        clear o1 o2 hv5 hl5 hS5 hG5 fQ5 fA fB fQ fW fA5
        go_wp2
        go_ret2
        exact ⟨_, _, qs, cur5, rfl, O1.out, O2.out, lq, ll, HE.out.2, by rw [V5.out]; exact HE.out.1, by rw [HQL.out]; omega, by rw [L5.out]; exact hl, by simp [Value.ownBlock]; omega, fW5⟩
      · have hjn : j + 1 + ys.length ≤ xs.length + 1 := by have := HM.out; omega
        have hpl : ((cur.drop j).take (ys.length + 1)).length = ys.length + 1 := by rw [List.length_take, List.length_drop, HCL.out]; omega
        have hlp := long_part hL D4.out (by rw [HCL.out]; omega)
        have hplim : Lim B32 ((cur.drop j).take (ys.length + 1)) := lim_take (lim_drop hL.lim _) _
        have hcut : cur.take j ++ (cur.drop j).take (ys.length + 1) ++ cur.drop (j + 1 + ys.length) = cur := by
          rw [List.append_assoc, show j + 1 + ys.length = j + (ys.length + 1) by omega, ← List.drop_drop, List.take_append_drop, List.take_append_drop]
        have fP : At .u32 wr gl 47 (nums .u32 (cur.take j)) ((cur.drop j).take (ys.length + 1)) (nums .u32 (cur.drop (j + 1 + ys.length))) := fA.recut (by
          rw [List.nil_append, List.append_nil, ← nums_append, ← nums_append, hcut])
        have hoj : (nums .u32 (cur.take j)).length = j := by rw [nums_len, List.length_take, HCL.out]; omega
        obtain ⟨part, hpart⟩ : ∃ part, (cur.drop j).take (ys.length + 1) = part := ⟨_, rfl⟩
        rw [hpart] at hpl hlp hplim fP
        have hgs := guess_of (n := ys.length) dl hplim hy2 HDL.out hpl (by have := D3.out (by rw [HDL.out]; omega); show 4294967296 ≤ _; omega) (by decide) (by rw [D2.out, hlp.1]; exact hlp.2)
        have cG := fun cp => guess_any gl j cp gb 0 ys.length ys.length _ _ _ _ _ _ _ _ wr hy2 (by omega) hgs (lim_get hplim _ _) (lim_get hplim _ _)
          (fB.cell (o := 0) rfl (ys.length - 1) (by rw [HDL.out]; omega)) (fB.cell (o := 0) rfl (ys.length - 2) (by rw [HDL.out]; omega))
          (fP.cell hoj ys.length (by omega)) (fP.cell hoj (ys.length - 1) (by omega)) (fP.cell hoj (ys.length - 2) (by omega))
        rw [← vl_two HDL.out hy2, ← vl_three hpl hy2, D2.out, hlp.1] at cG
        have CG := Lib.hid cG
        have HL := Lib.hid hL
        have HPL := Lib.hid hpl
        have HLP := Lib.hid hlp
        have HPL2 := Lib.hid hplim
        have HOJ := Lib.hid hoj
        clear cG hgs hcut hpart hpl hlp hL hplim hoj fA
        rw [show ((j + 1 : Nat) : Int) - 1 = (j : Int) by omega]
        go_wp2_with fail
        rw [show j + ys.length + 1 - j = ys.length + 1 by omega]
        refine (CG.out _).mono ?_
        rintro e W5 ⟨⟨t, rfl, ht1, ht2, ht3⟩, nd, rfl⟩
        have c6 := takeFrom_any gl j (xs.length + 1 - j) ys.length t (some ⟨gb, 0, none⟩) 47 (nums .u32 (cur.take j)) (nums .u32 (cur.drop (j + 1 + ys.length))) part Ds (wr.drewN nd) (fP.drewN nd) HOJ.out HPL2.out dl (by rw [HPL.out]; omega) (by rw [HPL.out, HDL.out]; omega) ht3
          (fB.drewN nd).rd (fun _ a e => by cases e; exact hne.symm)
        rw [HPL.out, HDL.out] at c6
        have C6 := Lib.hid c6
        have fQ5 := fQ.drewN nd
        have fB5 := fB.drewN nd
        have fW5 := below_drewN' fW nd
        clear c6 CG fQ fB fW fP
        go_wp2_with fail
        refine C6.out.mono ?_
        rintro e W6 ⟨⟨cur1, m1, r1, fP1, hT, rfl⟩, hG6⟩
        have te := take_end (part := part) (by rw [HPL.out]; exact hT) (by rw [HPL.out, HDL.out]; omega) (by show t ≤ 4294967296; omega)
        rw [HPL.out, D2.out, HLP.out.1] at te
        have fQ6 : At .u32 W6 gq 47 [] qs [] := fQ5.kept hG6 (by simp; omega)
        have fB6 : At .u32 W6 gb 47 [] Ds [] := fB5.kept hG6 (by simpa using hne.symm)
        have fW6 : Below w.heap.size w W6 := grown_below fW5 hG6 fW5.size hbl
        have hDp : 0 < vl B32 ys * 2 ^ k := by
          have := HL.out.less
          omega
        have hMl : vl B32 cur1 < B32 ^ (ys.length + 1) := by have := vl_lt te.2.2.1; rwa [te.2.2.2.1] at this
        have hfz : W6.frozen? ⟨gq, j, none⟩ = false := fQ6.frozen j
        obtain ⟨u, hu⟩ : ∃ u, W6.cell? ⟨gq, j, none⟩ = some u := ⟨_, by have := fQ6.cell (o := 0) rfl j (by rw [HQL.out]; omega); rwa [Nat.zero_add] at this⟩
        clear hT hG6 fQ5 fB5 fW5 C6
        by_cases hr1 : r1 = 1
        · subst hr1
          have c7 := addTo_any gl j (xs.length + 1 - j) ys.length (some ⟨gb, 0, none⟩) 47 (nums .u32 (cur.take j)) (nums .u32 (cur.drop (j + 1 + ys.length))) cur1 Ds W6 fP1 HOJ.out te.2.2.1 dl (by rw [te.2.2.2.1]; omega) (by rw [te.2.2.2.1, HDL.out]; omega) fB6.rd (fun _ a e => by cases e; exact hne.symm)
          rw [te.2.2.2.1, HDL.out] at c7
          have C7 := Lib.hid c7
          have TE := Lib.hid te
          have HML := Lib.hid hMl
          have HT1 := Lib.hid ht1
          have HT2 := Lib.hid ht2
          clear c7 te hfz hu hMl ht1 ht2
          go_wp2_with fail
          refine C7.out.mono ?_
          rintro e W7 ⟨rfl, ⟨cur2, c2, fP2, hA2⟩, hG7⟩
          have ae := add_end (part := cur1) (by rw [TE.out.2.2.2.1]; exact hA2) (by rw [TE.out.2.2.2.1, HDL.out]; omega)
          rw [TE.out.2.2.2.1, D2.out] at ae
          have hM2 : vl B32 cur2 < B32 ^ (ys.length + 1) := by have := vl_lt ae.2.1; rwa [ae.2.2.1] at this
          have ty := take_yes (by have := TE.out.2.1; rwa [Nat.mul_one] at this) ae.1 HML.out hM2 ae.2.2.2 HT1.out HT2.out hDp
          have ls := long_step (n := ys.length) HL.out D4.out hDp (by rw [HCL.out]; omega) (by rw [HQL.out]; omega) ae.2.2.1 ae.2.1 ty.1
          rw [← ty.2.1] at ls
          have fQ7 : At .u32 W7 gq 47 [] qs [] := fQ6.kept hG7 (by simp; omega)
          have fB7 : At .u32 W7 gb 47 [] Ds [] := fB6.kept hG7 (by simpa using hne.symm)
          have fW7 : Below w.heap.size w W7 := grown_below fW6 hG7 fW6.size hbl
          have hfz : W7.frozen? ⟨gq, j, none⟩ = false := fQ7.frozen j
          obtain ⟨u, hu⟩ : ∃ u, W7.cell? ⟨gq, j, none⟩ = some u := ⟨_, by have := fQ7.cell (o := 0) rfl j (by rw [HQL.out]; omega); rwa [Nat.zero_add] at this⟩
          have ht0 : 1 ≤ t := ty.2.2
          have hal := ae.2.2.1
          have LS := Lib.hid ls
          have HAL := Lib.hid hal
          have fA7 : At .u32 W7 gl 47 [] (cur.take j ++ cur2 ++ cur.drop (j + 1 + ys.length)) [] := fP2.recut (by rw [List.nil_append, List.append_nil, nums_append, nums_append])
          have eT : IntKind.u32.wrap ((t : Int) - 1) = ((t - 1 : Nat) : Int) := by rw [IntWalk.u32_in _ (by omega)]; omega
          have q1 := (fQ7.set (o := 0) rfl j (t - 1) (by rw [HQL.out]; omega))
          rw [Nat.zero_add] at q1
          obtain ⟨t1, ht1⟩ : ∃ t1, t - 1 = t1 := ⟨_, rfl⟩
          have et : (t : Int) - 1 = (t1 : Int) := by omega
          have ht1b : t1 < 4294967296 := by omega
          rw [ht1] at q1 ls
          clear ls ty hM2 ae hal hA2 hG7 fP1 fP2 fQ6 fB6 fW6 C7 eT
          have HQ1 := Lib.hid q1
          have HT9 := Lib.hid ht1
          clear q1 ht1
          go_wp2
          go_roundw
          case rel => exact ⟨j, _, _, by omega, rfl, fA7.far (by omega) _, fB7.far (by omega) _, HQ1.out, by have := LS.out.1; rwa [HT9.out] at this, by rw [List.length_append, List.length_append, List.length_take, List.length_drop, HAL.out, HCL.out]; omega, by rw [List.length_set, HQL.out], fW7.setCell nq _⟩
          case measure => simp [RowKit.intOf]
        · obtain rfl : r1 = 0 := by have := te.2.2.2.2; omega
          have tn := take_no (by have := te.2.1; rwa [Nat.mul_zero, Nat.add_zero] at this) ht1 ht2 hDp
          have ls := long_step (n := ys.length) HL.out D4.out hDp (by rw [HCL.out]; omega) (by rw [HQL.out]; omega) te.2.2.2.1 te.2.2.1 tn.1
          rw [← tn.2] at ls
          have hal := te.2.2.2.1
          have LS := Lib.hid ls
          have HAL := Lib.hid hal
          have fA7 : At .u32 W6 gl 47 [] (cur.take j ++ cur1 ++ cur.drop (j + 1 + ys.length)) [] := fP1.recut (by rw [List.nil_append, List.append_nil, nums_append, nums_append])
          have q1 := (fQ6.set (o := 0) rfl j t (by rw [HQL.out]; omega))
          rw [Nat.zero_add] at q1
          have HQ1 := Lib.hid q1
          clear q1 ls tn hal te fP1 fQ6 hMl ht1 ht2 hr1
          go_wp2
          go_roundw
          case rel => exact ⟨j, _, _, by omega, rfl, fA7.far (by omega) _, fB6.far (by omega) _, HQ1.out, LS.out.1, by rw [List.length_append, List.length_append, List.length_take, List.length_drop, HAL.out, HCL.out]; omega, by rw [List.length_set, HQL.out], fW6.setCell nq _⟩
          case measure => simp [RowKit.intOf]
end Go.Proofs.YtflnackpkcldjaaDoor
