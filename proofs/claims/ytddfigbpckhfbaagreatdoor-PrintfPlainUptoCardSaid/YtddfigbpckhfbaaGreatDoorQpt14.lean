/- Several texts in one (Contracts of layer 11: step, Sprintf; Plain: values in order. No walk here; The example of layer 11's laws; A slice of strings that came in, opened and shut; The walk of the law PrintfTexts; The walk of the law PrintfTexts). -/
import Derived.OpenShut
import Derived.ChangeShapes
import Derived.WideShapes
import Derived.Deep.Strs
import Derived.Laws.AppendOwn
import Derived.Test.YtddfigbpckhfbaaGreatDoorQpt1
import Derived.Test.YtddfigbpckhfbaaGreatDoorQpt9
import Derived.Test.YtddfigbpckhfbaaGreatDoorQpt10
import Derived.Test.YtddfigbpckhfbaaGreatDoorQpt11
import Derived.Test.YtddfigbpckhfbaaGreatDoorQpt13
namespace Go.Proofs.YtddfigbpckhfbaaGreatDoor
open Go.RowKit Go.Lib

/-- What holds between two steps. -/
structure Mid (w0 W : World) (B g : Nat) (S : ByteArray) (k : Nat) (C : ByteArray) (by' : Bool) (cv : Nat → ByteArray) (l : List Cl) (o : List UInt8) : Prop where
  wt : ∃ av, ArgV w0 av l ∧ Wt w0 W B g S k av C by' o
  len : o.length ≤ 1024
  vals : Vals C cv l
  short : Short cv l ∨ ∀ k x, partF S k = some x → Bare cv x l
theorem Vals.tail {C : ByteArray} {cv : Nat → ByteArray} {u l : List Cl} (h : Vals C cv (u ++ l)) : Vals C cv l := ⟨fun c hc => h.fine c (List.mem_append_right _ hc), fun c hc => h.conv c (List.mem_append_right _ hc)⟩
theorem short_tail {cv : Nat → ByteArray} {S : ByteArray} {u l : List Cl} (h : Short cv (u ++ l) ∨ ∀ k x, partF S k = some x → Bare cv x (u ++ l)) : Short cv l ∨ ∀ k x, partF S k = some x → Bare cv x l := by
  rcases h with h | h
  · exact Or.inl fun c hc => h c (List.mem_append_right _ hc)
  · exact Or.inr fun k x hx => ⟨(h k x hx).1, (h k x hx).2.1, (h k x hx).2.2.1, (h k x hx).2.2.2.1, (h k x hx).2.2.2.2.1, fun c hc => (h k x hx).2.2.2.2.2 c (List.mem_append_right _ hc)⟩
def StepOut (w0 : World) (B g : Nat) (S : ByteArray) (k : Nat) (C : ByteArray) (by' : Bool) (cv : Nat → ByteArray) (l : List Cl) (o : List UInt8) (e : Ending) (w' : World) : Prop :=
  (∃ E : Int, E ≠ 0 ∧ e = .returned (.int .i64 E) ∧ sprR cv by' S k l o = .error E ∧ Below B w0 w') ∨
  (e = .returned (.int .i64 0) ∧ ∃ k' l' o', k < k' ∧ k' ≤ S.size ∧ Mid w0 w' B g S k' C by' cv l' o' ∧ sprR cv by' S k l o = sprR cv by' S k' l' o')
theorem step_any (w0 W : World) (B g : Nat) (S : ByteArray) (k : Nat) (C : ByteArray) (by' : Bool) (cv : Nat → ByteArray) (l : List Cl) (o : List UInt8) (hk : k < S.size) (hS : S.size ≤ 4611686018427387904) (h : Mid w0 W B g S k C by' cv l o) (hT : PowTab w0) (hU : Utf8Tabs 3 4 w0) :
    Calls Tryz.prog 63 #[.pointer (some ⟨g, 0, none⟩)] W (StepOut w0 B g S k C by' cv l o) := by
  obtain ⟨av, ha, hw⟩ := h.wt
  obtain ⟨c0, c1, -, -, -, f1, -⟩ := hw.cells
  by_cases h37 : atB S k = 37
  · cases hp : partF S k with
    | none => exact (step_bad W g S k hk hS c0 c1 h37 hp).mono fun e w' q => Or.inl ⟨50, by omega, q.1, spr_bad hk h37 hp, hw.bel.trans (q.2.mono hw.size.1)⟩
    | some x =>
      obtain ⟨m, p, b, a, z, wd, pr, c, sw, sp, nx⟩ := x
      obtain ⟨q1', q2', -, -, q5, q6⟩ := part_ends hp
      dsimp only at q1' q2' q5 q6
      have hz : Short cv l ∨ Bare cv ⟨m, p, b, a, z, wd, pr, c, sw, sp, nx⟩ l := by
        rcases h.short with z | z
        · exact Or.inl z
        · exact Or.inr (z k _ hp)
      have hPart := fun W' (hb : Below W.heap.size W W') => wPart_any w0 (W'.setCell ⟨g, 1, none⟩ (.int .i64 (nx : Int))) B g S nx C by' o cv l av ⟨m, p, b, a, z, wd, pr, c, sw, sp, nx⟩ ha ((hw.below hb).setAt nx) h.vals hz q6 q5 hT hU
      cases ht : textP cv by' ⟨m, p, b, a, z, wd, pr, c, sw, sp, nx⟩ l with
      | none =>
        refine step_part W g S k hk hS c0 c1 f1 h37 m p b a z wd pr c sw sp nx hp (StepOut w0 B g S k C by' cv l o) (fun _ _ => False) (fun W' hb => ?_) (fun _ _ q => q.elim)
        refine (hPart W' hb).mono fun e w' q => ?_
        unfold PartOut at q
        rw [ht] at q
        obtain ⟨r, rfl, av', q⟩ := q
        exact Or.inl ⟨r, rfl, Or.inl ⟨50, by omega, rfl, spr_no hp ht, q.bel⟩⟩
      | some y =>
        obtain ⟨t, l'⟩ := y
        obtain ⟨u, hu, -⟩ := textP_left ht
        have hsp := spr_part (cv := cv) (by' := by') (o := o) hp ht
        dsimp only at hsp
        refine step_part W g S k hk hS c0 c1 f1 h37 m p b a z wd pr c sw sp nx hp (StepOut w0 B g S k C by' cv l o) (fun r w' => r = ⟨t.toArray⟩ ∧ ∃ av', ArgV w0 av' l' ∧ Wt w0 w' B g S nx av' C by' o) (fun W' hb => ?_) (fun r W' q => ?_)
        · refine (hPart W' hb).mono fun e w' q => ?_
          unfold PartOut at q
          rw [ht] at q
          exact Or.inr ⟨_, q.1, rfl, q.2⟩
        · obtain ⟨rfl, av', ha', hw'⟩ := q
          have hts : (⟨t.toArray⟩ : ByteArray).size = t.length := rfl
          refine (wWrite_any w0 W' B g S nx C by' o av' ⟨t.toArray⟩ hw' h.len).mono fun e w' q => ?_
          · rw [hts] at q
            rcases q with ⟨q1, rfl, q2⟩ | ⟨q1, rfl, q2⟩
            · exact ⟨⟨_, rfl⟩, Or.inl ⟨3, by omega, rfl, by rw [hsp, if_pos q1], q2.bel⟩⟩
            · have hv := h.vals
              have hs := h.short
              rw [hu] at hv hs
              exact ⟨⟨_, rfl⟩, Or.inr ⟨rfl, nx, l', o ++ t, by omega, q2', ⟨⟨av', ha', q2⟩, by rw [List.length_append]; omega, hv.tail, short_tail hs⟩, by rw [hsp, if_neg q1]⟩⟩
  · refine step_plain W g S k (StepOut w0 B g S k C by' cv l o) hk hS c0 c1 f1 h37 (fun n W' h0 hn hb hbel => ?_)
    have hw2 := (hw.below hbel).setAt (k + n)
    rw [Int.natCast_add] at hw2
    have hsz : (S.extract k (k + n)).size = n := by rw [ByteArray.size_extract]; omega
    have hr := spr_run (cv := cv) (by' := by') (S := S) (k := k) (n := n) (l := l) (o := o) hn hb h.len
    refine (wWrite_any w0 _ B g S (k + n) C by' o av (S.extract k (k + n)) hw2 h.len).mono fun e w' q => ?_
    rw [hsz] at q
    rcases q with ⟨q1, rfl, q2⟩ | ⟨q1, rfl, q2⟩
    · exact ⟨⟨_, rfl⟩, Or.inl ⟨3, by omega, rfl, by rw [hr, if_pos q1], q2.bel⟩⟩
    · refine ⟨⟨_, rfl⟩, Or.inr ⟨rfl, k + n, l, o ++ bytesN S k n, by omega, hn, ⟨⟨av, ha, ?_⟩, ?_, h.vals, h.short⟩, by rw [hr, if_neg q1]⟩⟩
      · rw [bytesN_ext hn] at q2
        exact q2
      · rw [List.length_append, bytesN_len]; omega
/-- What Sprintf answers. -/
def sprT (r : Spr) : List UInt8 := match r with
  | .ok (o, _) => o
  | .error _ => []
def sprE (r : Spr) : Int := match r with
  | .ok _ => 0
  | .error e => e
set_option maxRecDepth 100000 in
set_option maxHeartbeats 8000000 in
theorem sprintf_any (S C : ByteArray) (by' : Bool) (cv : Nat → ByteArray) (l : List Cl) (av : Value) (w : World) (hS : S.size ≤ 4611686018427387904) (ha : ArgV w av l) (hV : Vals C cv l) (hz : Short cv l ∨ ∀ k x, partF S k = some x → Bare cv x l) (hT : PowTab w) (hU : Utf8Tabs 3 4 w) :
    Calls Tryz.prog 27 #[.string S, av, .agg #[.string C, .bool by']] w fun e w' => e = .returned (.tuple #[.string ⟨(sprT (sprR cv by' S 0 l [])).toArray⟩, .int .i64 (sprE (sprR cv by' S 0 l []))]) ∧ Below w.heap.size w w' := by
  obtain ⟨r, hr⟩ : ∃ r, sprR cv by' S 0 l [] = r := ⟨_, rfl⟩
  rw [hr]
  obtain ⟨A, cap, rfl, hc1, hc2, hrd⟩ := ha
  have ha : ArgV w (.slice A l.length cap) l := ⟨A, cap, rfl, hc1, hc2, hrd⟩
  clear hc1 hc2 hrd
  obtain ⟨n, hn⟩ : ∃ n, l.length = n := ⟨_, rfl⟩
  rw [hn] at ha ⊢
  clear hn
  obtain ⟨av, hav⟩ : ∃ av, Value.slice A n cap = av := ⟨_, rfl⟩
  rw [hav] at ha
  obtain ⟨W2, hW2⟩ : ∃ W2, (w.alloc (.cells #[.string C, .bool by'] 44)).alloc (.cells (wc S 0 av C by' (.pointer none) (.slice none 0 0)) 90) = W2 := ⟨_, rfl⟩
  have hb2 : Below w.heap.size w W2 := by
    rw [← hW2]
    exact ((Below.refl _ _).alloc (Nat.le_refl _) _).alloc (by simp) _
  have hbld : Bld W2 w.heap.size (w.heap.size + 1) 5 (wc S 0 av C by' (.pointer none) (.slice none 0 0)) 90 (.pointer none) (.slice none 0 0) [] := by
    refine ⟨?_, rfl, rfl, World.ownsRow_nil _ _ _ _, by simp [Value.ownBlock], Nat.le_succ _, Or.inl rfl⟩
    rw [← hW2]
    have := heap_alloc_new (w.alloc (.cells #[.string C, .bool by'] 44)) (.cells (wc S 0 av C by' (.pointer none) (.slice none 0 0)) 90)
    rw [World.size_alloc] at this
    exact this
  have hM : Mid w W2 w.heap.size (w.heap.size + 1) S 0 C by' cv l [] := ⟨⟨av, ha, ⟨⟨_, _, hbld⟩, hb2, Nat.le_refl _⟩⟩, by decide, hV, hz⟩
  have CS := Lib.hid (fun (W : World) (k : Nat) (l : List Cl) (o : List UInt8) (hk : k < S.size) (h : Mid w W w.heap.size (w.heap.size + 1) S k C by' cv l o) => step_any w W w.heap.size (w.heap.size + 1) S k C by' cv l o hk hS h hT hU)
  have HM := Lib.hid (And.intro hM hr)
  obtain ⟨B, hB⟩ : ∃ B, w.heap.size = B := ⟨_, rfl⟩
  have CS := CS.out
  have HM := HM.out
  rw [hB] at CS HM ⊢
  have CS := Lib.hid CS
  have HM := Lib.hid HM
  have HB := Lib.hid hB
  clear hr hM hbld hb2 hB ha hV hz hT hU
  subst hav
  have HW2 := Lib.hid hW2
  clear hW2
  go_enter Tryz.func27, Tryz.ntmps27
  go_wp2_with fail
  change Code.wp _ _ _ _ ((w.alloc (.cells #[.string C, .bool by'] 44)).alloc (.cells (wc S 0 (.slice A n cap) C by' (.pointer none) (.slice none 0 0)) 90))
  rw [HW2.out, HB.out]
  go_loopw [9] (fun _ wr => ∃ k l' o', k ≤ S.size ∧ Mid w wr B (B + 1) S k C by' cv l' o' ∧ sprR cv by' S k l' o' = r) (fun _ W => S.size - atOf W (B + 1))
  case atStart => exact ⟨0, l, [], Nat.zero_le _, HM.out.1, HM.out.2⟩
  case round =>
    obtain ⟨k, l', o', hk, hM, hr⟩ := hrel
    obtain ⟨av', ha', hw'⟩ := hM.wt
    obtain ⟨c0, c1, -, -, -, -, -⟩ := hw'.cells
    have hat : atOf wr (B + 1) = k := by unfold atOf; rw [c1]; rfl
    have hr2 : sprR cv by' S k l' o' = r := hr
    have hbr := hw'.bel
    have hlr := hw'.lim
    have hsz := hw'.size
    obtain ⟨⟨p, v, hbld⟩, -, -⟩ := hw'
    by_cases hlt : k < S.size
    · have hlti : (k : Int) < (S.size : Int) := by omega
      have CS1 := Lib.hid (CS.out wr k l' o' hlt hM)
      have HR := Lib.hid hr2
      have HAT := Lib.hid hat
      clear hr hr2 hat hM hbld
      go_wp2_with fail
      refine CS1.out.mono ?_
      rintro e W3 (⟨E, hE, rfl, hs, hb3⟩ | ⟨rfl, k2, l2, o2, hk2, hk3, hM2, hs⟩)
      · have hEb : (E == 0) = false := by rw [beq_eq_false_iff_ne]; exact hE
        have hEn : (E != 0) = true := by rw [bne_iff_ne]; exact hE
        have HS := Lib.hid hs
        have HB3 := Lib.hid hb3
        clear hs hb3
        go_wp2_with fail
        go_ret2
        exact ⟨by rw [← HR.out, HS.out]; rfl, HB3.out⟩
      · have HS := Lib.hid hs
        have HM2 := Lib.hid hM2
        clear hs hM2
        go_wp2_with fail
        go_roundw
        case rel => exact ⟨k2, l2, o2, hk3, HM2.out, HS.out.symm.trans HR.out⟩
        case measure =>
          obtain ⟨av2, -, hw2⟩ := HM2.out.wt
          have : atOf W3 (B + 1) = k2 := by unfold atOf; rw [hw2.cells.2.1]; rfl
          rw [this, HAT.out]
          omega
    · have hnl : ¬ (k : Int) < (S.size : Int) := by omega
      have he : r = .ok (o', l') := by rw [← hr2, spr_done (by omega)]
      have CSt := Lib.hid (bld_string hbld hsz.1)
      have HE := Lib.hid he
      have HBr := Lib.hid hbr
      clear hr hr2 hat hM hbld he
      go_wp2_with fail
      refine CSt.out.mono ?_
      rintro e W3 ⟨rfl, hb3⟩
      have HB3 := Lib.hid (HBr.out.trans hb3)
      clear hb3
      go_wp2_with fail
      go_ret2
      exact ⟨by rw [HE.out]; rfl, HB3.out⟩
end Go.Proofs.YtddfigbpckhfbaaGreatDoor

namespace Go.Proofs.YtddfigbpckhfbaaGreatDoor
open Go.RowKit Go.Lib

/-- What Compare answers by "%.6g". -/
noncomputable def w6 (k : Int) (n : Nat) (s : ByteArray) : ByteArray := wrT k s ⟨(conv6 n).toArray⟩
end Go.Proofs.YtddfigbpckhfbaaGreatDoor

namespace Go.Proofs.YtddfigbpckhfbaaGreatDoor
open Go.RowKit Go.Lib

theorem prf_itoa_len (z : Int) (h : z.natAbs < 10 ^ 20) : (Lib.itoa z).length ≤ 100 := by
  unfold Lib.itoa
  split
  · rw [decD, List.length_cons]
    have := (decs_len (n := z.natAbs) (k := 20) h (by omega)).2
    omega
  · rw [decD]
    have := (decs_len (n := z.toNat) (k := 20) (by omega) (by omega)).2
    omega
theorem prf_conv6_len (w : World) {x : Nat} (hb : x < 18446744073709551616) : (conv6 x).length ≤ 100000 := by
  unfold conv6
  cases hw : wholeB x 4846369599423283200 with
  | true =>
    rw [if_pos rfl]
    have hlt : mag x < 4846369599423283200 := by
      unfold wholeB at hw
      exact of_decide_eq_true (Bool.and_eq_true_iff.1 hw).1
    have hq := whQ_lt hlt e16_V
    have hz := whZ_bd _ hq
    exact Nat.le_trans (prf_itoa_len _ (by omega)) (by omega)
  | false =>
    rw [if_neg (by decide)]
    cases ho : oddL x with
    | some n =>
      show n.length ≤ 100000
      have : n.length = 4 := by
        unfold oddL at ho
        split at ho
        · cases ho; rfl
        · split at ho
          · cases ho; rfl
          · split at ho <;> cases ho
            rfl
      omega
    | none => exact pointT_len w (mag_odd hb ho) (by omega) (by omega) (by omega) (by omega)

/-- Values of the definition. -/
theorem pfText_any (s : ByteArray) (w : World) : Calls Tryz.prog 30 #[.string s] w fun e w' => e = .returned (.agg #[.int .i64 2, .float .f64 0, .string s]) ∧ Below w.heap.size w w' := by
  obtain ⟨q0, q1, q2, r0, r1, r2⟩ := (Five.new w #[.int .i64 0, .float .f64 0, .string ⟨#[]⟩] 38).three
  have hst := run_store_float
  go_enter Tryz.func30, Tryz.ntmps30
  go_wp2_with fail
  exact bodyPost_ret (v := .agg #[.int .i64 2, .float .f64 0, .string s]) (by simp [results, Tryz.results30, go_sem]) rfl ⟨rfl, (Below.refl w.heap.size w).alloc (Nat.le_refl _) _⟩
theorem pfOf_any (x : Nat) (w : World) : Calls Tryz.prog 62 #[.float .f64 x] w fun e w' => e = .returned (.agg #[.int .i64 1, .float .f64 x, .string ⟨#[]⟩]) ∧ Below w.heap.size w w' := by
  obtain ⟨q0, q1, q2, r0, r1, r2⟩ := (Five.new w #[.int .i64 0, .float .f64 0, .string ⟨#[]⟩] 38).three
  have hst := run_store_float
  go_enter Tryz.func62, Tryz.ntmps62
  go_wp2_with fail
  exact bodyPost_ret (v := .agg #[.int .i64 1, .float .f64 x, .string ⟨#[]⟩]) (by simp [results, Tryz.results62, go_sem]) rfl ⟨rfl, (Below.refl w.heap.size w).alloc (Nat.le_refl _) _⟩
theorem pre_1005 : preN [49, 46, 48, 48, 53, 120] = 4607204936798154260 := by
  unfold preN
  rw [show sigL [49, 46, 48, 48, 53, 120] = (false, [49], [48, 48, 53], 0, 5) from by rfl]
  simp only
  have hn : Near (2 * (1005 * 10 ^ 0) * S1074) (10 ^ 3) 4607204936798154260 := by
    refine ⟨fun q hq => ?_, fun _ _ _ => by decide, fun _ => by decide +kernel, fun _ _ => by decide, by decide⟩
    obtain rfl : q = 4607204936798154259 := by omega
    decide +kernel
  have e1 : pv ([49] ++ [48, 48, 53]) = 1005 := by decide
  have e2 : ((0 : Int) - (([48, 48, 53] : List UInt8).length : Int)).toNat = 0 := by decide
  have e3 : (-((0 : Int) - (([48, 48, 53] : List UInt8).length : Int))).toNat = 3 := by decide
  rw [e1, e2, e3, nearR_of (by decide) hn]
  rfl
def fixS : ByteArray := ⟨#[37, 45, 42, 115, 124, 37, 46, 50, 102, 37, 37, 37, 99, 37, 99]⟩
def fixL : List Cl := [⟨1, 4616189618054758400, ⟨#[]⟩⟩, ⟨2, 0, ⟨#[97, 98]⟩⟩, ⟨2, 0, ⟨#[49, 46, 48, 48, 53, 120]⟩⟩, ⟨1, 4642401975260938240, ⟨#[]⟩⟩, ⟨2, 0, ⟨#[120, 121]⟩⟩]
theorem fix_p0 : partF fixS 0 = some ⟨true, false, false, false, false, 0, -1, 115, true, false, 4⟩ := by rfl
theorem fix_p5 : partF fixS 5 = some ⟨false, false, false, false, false, 0, 2, 102, false, false, 9⟩ := by rfl
theorem fix_p9 : partF fixS 9 = some ⟨false, false, false, false, false, 0, -1, 37, false, false, 11⟩ := by rfl
theorem fix_p11 : partF fixS 11 = some ⟨false, false, false, false, false, 0, -1, 99, false, false, 13⟩ := by rfl
theorem fix_p13 : partF fixS 13 = some ⟨false, false, false, false, false, 0, -1, 99, false, false, 15⟩ := by rfl
theorem fix_t0 (cv : Nat → ByteArray) (l : List Cl) : textP cv false ⟨true, false, false, false, false, 0, -1, 115, true, false, 4⟩ (⟨1, 4616189618054758400, ⟨#[]⟩⟩ :: ⟨2, 0, ⟨#[97, 98]⟩⟩ :: l) = some ([97, 98, 32, 32], l) := by
  have hf : figI (Cl.num ⟨1, 4616189618054758400, ⟨#[]⟩⟩) = 4 := by
    have e0 : Cl.num ⟨1, 4616189618054758400, ⟨#[]⟩⟩ = 4616189618054758400 := by unfold Cl.num numV2; rw [if_pos (Or.inl rfl)]
    rw [e0]
    decide +kernel
  unfold textP szW
  rw [if_pos rfl]
  dsimp only
  rw [hf]
  unfold szP
  rw [if_neg (by decide)]
  dsimp only
  rw [if_neg (by decide), if_pos (by decide +kernel)]
  unfold oneT
  rw [if_pos rfl]
  have ew : wrT 2 ⟨#[97, 98]⟩ (cv 0) = ⟨#[97, 98]⟩ := by unfold wrT; rw [if_neg (by decide), if_pos (by decide)]
  rw [ew]
  have et : textT (true || decide ((4 : Int) < 0)) (max 4 (-4)) (-1) 115 ⟨#[97, 98]⟩ false = [97, 98, 32, 32] := by decide +kernel
  rw [et]
theorem fix_t5 (cv : Nat → ByteArray) (l : List Cl) : textP cv false ⟨false, false, false, false, false, 0, 2, 102, false, false, 9⟩ (⟨2, 0, ⟨#[49, 46, 48, 48, 53, 120]⟩⟩ :: l) = some ([49, 46, 48, 48], l) := by
  unfold textP szW szP
  rw [if_neg (by decide)]
  dsimp only
  rw [if_neg (by decide)]
  dsimp only
  rw [if_neg (by decide), if_pos (by decide +kernel)]
  unfold oneT
  rw [if_neg (by decide), if_neg (by decide)]
  have e0 : Cl.num ⟨2, 0, ⟨#[49, 46, 48, 48, 53, 120]⟩⟩ = 4607204936798154260 := by
    unfold Cl.num numV2
    rw [if_neg (by decide), if_pos rfl]
    exact pre_1005
  rw [e0]
  have et : numT false false false false false 0 2 102 4607204936798154260 = [49, 46, 48, 48] := by
    unfold numT
    rw [if_pos ⟨by decide +kernel, by decide +kernel⟩, show oddL 4607204936798154260 = none from by decide +kernel]
    show (if _ then _ else _) = _
    rw [if_neg (by decide +kernel)]
    unfold pointT ptD
    rw [if_pos (Or.inl rfl)]
    decide +kernel
  rw [et]
theorem fix_t9 (cv : Nat → ByteArray) (l : List Cl) : textP cv false ⟨false, false, false, false, false, 0, -1, 37, false, false, 11⟩ l = some ([37], l) := by
  unfold textP szW szP
  rw [if_neg (by decide)]
  dsimp only
  rw [if_neg (by decide)]
  dsimp only
  rw [if_pos rfl, if_pos (by decide +kernel)]
theorem fix_t11 (cv : Nat → ByteArray) (nx : Nat) (c : Cl) (t : List UInt8) (l : List Cl) (h : textT false 0 (-1) 99 (letB c false) false = t) : textP cv false ⟨false, false, false, false, false, 0, -1, 99, false, false, nx⟩ (c :: l) = some (t, l) := by
  unfold textP szW szP
  dsimp only
  rw [if_neg (by decide)]
  dsimp only
  rw [if_neg (by decide)]
  dsimp only
  rw [if_neg (by decide), if_pos (by decide +kernel)]
  unfold oneT
  dsimp only
  rw [if_neg (by decide), if_pos rfl, h]
theorem fix_spr (cv : Nat → ByteArray) : sprR cv false fixS 0 fixL [] = .ok ([97, 98, 32, 32, 124, 49, 46, 48, 48, 37, 195, 169, 120], []) := by
  unfold fixL
  rw [spr_part fix_p0 (fix_t0 cv _), if_neg (by decide)]
  dsimp only
  rw [spr_byte (S := fixS) (k := 4) (by decide) (by decide), if_neg (by decide)]
  rw [spr_part fix_p5 (fix_t5 cv _), if_neg (by decide)]
  dsimp only
  rw [spr_part fix_p9 (fix_t9 cv _), if_neg (by decide)]
  dsimp only
  rw [spr_part fix_p11 (fix_t11 cv 13 _ [195, 169] _ (by decide +kernel)), if_neg (by decide)]
  dsimp only
  rw [spr_part fix_p13 (fix_t11 cv 15 _ [120] _ (by decide +kernel)), if_neg (by decide)]
  dsimp only
  rw [spr_done (S := fixS) (k := 15) (by decide)]
  rfl
noncomputable def cv6 (x : Nat) : ByteArray := ⟨(conv6 x).toArray⟩
theorem fix_vals : Vals p6g cv6 fixL := ⟨fun c hc => by
    unfold fixL at hc
    simp only [List.mem_cons, List.not_mem_nil, or_false] at hc
    rcases hc with rfl | rfl | rfl | rfl | rfl <;> exact ⟨by decide, by decide⟩,
  fun c hc _ W hW => by
    have hb : c.bits < 18446744073709551616 := by
      unfold fixL at hc
      simp only [List.mem_cons, List.not_mem_nil, or_false] at hc
      rcases hc with rfl | rfl | rfl | rfl | rfl <;> decide
    exact conv_6g c.bits W hb hW⟩
theorem fix_short (w : World) : Short cv6 fixL := fun c hc => by
  unfold fixL at hc
  simp only [List.mem_cons, List.not_mem_nil, or_false] at hc
  have h6 : ∀ x, x < 18446744073709551616 → (cv6 x).size ≤ 1048576 := fun x hx => Nat.le_trans (prf_conv6_len w hx) (by omega)
  rcases hc with rfl | rfl | rfl | rfl | rfl
  · exact ⟨by unfold wrT; rw [if_pos rfl]; exact h6 _ (by decide), by decide⟩
  · exact ⟨by unfold wrT; rw [if_neg (by decide), if_pos (by decide)]; decide, by decide⟩
  · exact ⟨by unfold wrT; rw [if_neg (by decide), if_pos (by decide)]; decide, by decide⟩
  · exact ⟨by unfold wrT; rw [if_pos rfl]; exact h6 _ (by decide), by decide⟩
  · exact ⟨by unfold wrT; rw [if_neg (by decide), if_pos (by decide)]; decide, by decide⟩
abbrev fixC : Array Value := #[.int .i64 1, .float .f64 4616189618054758400, .string ⟨#[]⟩, .int .i64 2, .float .f64 0, .string ⟨#[97, 98]⟩, .int .i64 2, .float .f64 0, .string ⟨#[49, 46, 48, 48, 53, 120]⟩, .int .i64 1, .float .f64 4642401975260938240, .string ⟨#[]⟩, .int .i64 2, .float .f64 0, .string ⟨#[120, 121]⟩]
theorem fix_args (W : World) : ArgV (W.alloc (.cells fixC 38)) (.slice (some ⟨W.heap.size, 0, none⟩) 5 5) fixL := by
  refine ⟨_, 5, rfl, Nat.le_refl _, by decide, fun j hj => ⟨W.heap.size, 0, rfl, fun i hi => ?_⟩⟩
  have F := Five.new W fixC 38
  have hj5 : j < 5 := hj
  rw [Nat.zero_add, F.cell]
  match j, hj5, i, hi with
  | 0, _, 0, _ => rfl
  | 0, _, 1, _ => rfl
  | 0, _, 2, _ => rfl
  | 1, _, 0, _ => rfl
  | 1, _, 1, _ => rfl
  | 1, _, 2, _ => rfl
  | 2, _, 0, _ => rfl
  | 2, _, 1, _ => rfl
  | 2, _, 2, _ => rfl
  | 3, _, 0, _ => rfl
  | 3, _, 1, _ => rfl
  | 3, _, 2, _ => rfl
  | 4, _, 0, _ => rfl
  | 4, _, 1, _ => rfl
  | 4, _, 2, _ => rfl
set_option maxRecDepth 100000 in
set_option maxHeartbeats 8000000 in
theorem pfixed_any (w : World) (hT : PowTab w) (hU : Utf8Tabs 3 4 w) : Calls Tryz.prog 24 #[] w fun e w' => e = .returned (.bool true) ∧ Below w.heap.size w w' := by
  have C1 := Lib.hid (fun W => pfOf_any 4616189618054758400 W)
  have C2 := Lib.hid (fun W => pfText_any ⟨#[97, 98]⟩ W)
  have C3 := Lib.hid (fun W => pfText_any ⟨#[49, 46, 48, 48, 53, 120]⟩ W)
  have C4 := Lib.hid (fun W => pfOf_any 4642401975260938240 W)
  have C5 := Lib.hid (fun W => pfText_any ⟨#[120, 121]⟩ W)
  have c6 : ∀ W, Below w.heap.size w W → Calls Tryz.prog 27 #[.string ⟨#[37, 45, 42, 115, 124, 37, 46, 50, 102, 37, 37, 37, 99, 37, 99]⟩, .slice (some ⟨W.heap.size, 0, none⟩) 5 5, .agg #[.string ⟨#[37, 46, 54, 103]⟩, .bool false]] (W.alloc (.cells fixC 38)) fun e w' => e = .returned (.tuple #[.string ⟨#[97, 98, 32, 32, 124, 49, 46, 48, 48, 37, 195, 169, 120]⟩, .int .i64 0]) ∧ Below w.heap.size w w' := fun W hb => by
    have hb2 := hb.alloc hb.size (.cells fixC 38)
    have := sprintf_any fixS p6g false cv6 fixL _ (W.alloc (.cells fixC 38)) (by decide) (fix_args W) fix_vals (Or.inl (fix_short w)) (Lib.tabBelow_of_tabIs hT _ hb2) (tabs_below hU hb2 (Nat.le_refl _))
    rw [fix_spr] at this
    exact this.mono fun e w' q => ⟨q.1, hb2.trans (q.2.mono hb2.size)⟩
  have C6 := Lib.hid c6
  clear c6 hT hU
  go_enter Tryz.func24, Tryz.ntmps24
  go_wp2_with fail
  refine (C1.out _).mono ?_
  rintro e W1 ⟨rfl, h1⟩
  have HB1 := Lib.hid h1
  clear h1
  go_wp2_with fail
  refine (C2.out _).mono ?_
  rintro e W2 ⟨rfl, h2⟩
  have HB2 := Lib.hid (HB1.out.trans (h2.mono HB1.out.size))
  clear h2
  go_wp2_with fail
  refine (C3.out _).mono ?_
  rintro e W3 ⟨rfl, h3⟩
  have HB3 := Lib.hid (HB2.out.trans (h3.mono HB2.out.size))
  clear h3
  go_wp2_with fail
  refine (C4.out _).mono ?_
  rintro e W4 ⟨rfl, h4⟩
  have HB4 := Lib.hid (HB3.out.trans (h4.mono HB3.out.size))
  clear h4
  go_wp2_with fail
  refine (C5.out _).mono ?_
  rintro e W5 ⟨rfl, h5⟩
  have HB5 := Lib.hid (HB4.out.trans (h5.mono HB4.out.size))
  clear h5
  go_wp2_with fail
  refine (C6.out _ HB5.out).mono ?_
  rintro e W6 ⟨rfl, h6⟩
  have HB6 := Lib.hid h6
  clear h6
  go_wp2_with fail
  go_ret
  exact ⟨rfl, HB6.out⟩
end Go.Proofs.YtddfigbpckhfbaaGreatDoor

namespace Go.Proofs.YtddfigbpckhfbaaGreatDoor
open Go.RowKit Go.ChangeShapes Go.WideShapes

theorem cells_str : Tryz.prog.cellsOf 9 = 1 := by kernel_rfl
/-- Its strings lie there. -/
def RdS (W : World) (A : Option Addr) (ss : List ByteArray) : Prop := ∀ j (_ : j < ss.length), ∃ b off, A = some ⟨b, off, none⟩ ∧ W.cell? ⟨b, off + j, none⟩ = some (.string ss[j])
theorem RdS.below {W W' : World} {A : Option Addr} {ss : List ByteArray} (h : RdS W A ss) (hb : Below W.heap.size W W') : RdS W' A ss := fun j hj => by
  obtain ⟨b, off, e, hc⟩ := h j hj
  exact ⟨b, off, e, (hb.cell (World.block_lt_of_cell? W _ hc)).trans hc⟩
theorem mem_weightsAll {H : Type} {P : Program} {e : TypeId} {d : DataW H} {x : Nat} : ∀ {l : List (DataW H)}, d ∈ l → x ∈ DataW.weights P e d → x ∈ DataW.weightsAll P e l := by
  intro l
  induction l with
  | nil => intro h; cases h
  | cons d0 l ih =>
    intro h hx
    unfold DataW.weightsAll
    rcases List.mem_cons.1 h with rfl | h
    · exact List.mem_append_left _ hx
    · exact List.mem_append_right _ (ih h hx)
set_option maxRecDepth 100000 in
theorem open_strsA {H : Type} {enc : TypeId × Value → H} {W : World} {v : Value} {d : DataW H} {p : List MemPlace} {base : Nat} (hv : Value.okWide Tryz.prog W .any base 59 v) (h : DataW.Trod enc Tryz.prog W 0 (fun _ => true) true 59 v d p) :
    ∃ (A : Option Addr) (cap : Nat) (ss : List ByteArray), v = .slice A ss.length cap ∧ ss.length ≤ cap ∧ cap ≤ maxLen ∧ (A = none → cap = 0) ∧ (∀ s ∈ ss, s.size ≤ maxLen) ∧ RdS W A ss ∧ (∀ W', Below W.heap.size W W' → DataW.Trod enc Tryz.prog W' 0 (fun b => decide (b < W.heap.size)) true 59 (.slice A ss.length cap) d p) ∧ ((∀ z ∈ DataW.weights Tryz.prog 59 d, z ≤ 140737488351232) → ∀ s ∈ ss, s.size ≤ 140737488351232) := by
  obtain ⟨a0, len, cap, rfl⟩ := okWide_slice Tryz.underlying59 hv
  obtain ⟨fuel, hf⟩ := h
  rcases Go.Deep.open_strs Tryz.underlying59 Tryz.underlying9 cells_str hf with ⟨hcs, hx⟩ | ⟨a, len', cap', m, Sx, hcs, _, hl, hm, hmm, hx, hcell⟩
  · simp [Value.cells] at hcs
    obtain ⟨rfl, rfl, rfl⟩ := hcs
    simp only [Prod.mk.injEq] at hx
    obtain ⟨rfl, rfl⟩ := hx
    exact ⟨none, 0, [], rfl, Nat.le_refl _, Nat.zero_le _, fun _ => rfl, fun s hs => (by cases hs), fun j hj => absurd hj (Nat.not_lt_zero _), fun W' _ => shut_slice_nil Tryz.underlying59, fun _ s hs => (by cases hs)⟩
  · simp [Value.cells] at hcs
    obtain ⟨rfl, rfl, rfl⟩ := hcs
    simp only [if_true] at hmm
    subst hmm
    simp only [Prod.mk.injEq] at hx
    obtain ⟨rfl, rfl⟩ := hx
    have hlen : ((List.range len).map Sx).length = len := by rw [List.length_map, List.length_range]
    refine ⟨some a, m, (List.range len).map Sx, by rw [hlen], by rw [hlen]; exact hl, hm, (fun e => by cases e), ?_, ?_, fun W' hB => ?_, fun hz s hs => ?_⟩
    · intro s hs
      obtain ⟨i, hi, rfl⟩ := List.mem_map.1 hs
      exact (hcell i (by have := List.mem_range.1 hi; omega)).2
    · intro j hj
      rw [hlen] at hj
      obtain ⟨b, off, spot⟩ := a
      have h0 := (hcell j (by omega)).1
      have hspot : spot = none := by simpa [Addr.add] using World.cell?_spot (hcell 0 (by omega)).1
      subst hspot
      refine ⟨b, off, rfl, ?_⟩
      rw [← Go.WideShapes.add_plain, h0]
      simp
    · rw [hlen]
      have one : ∀ i, i < m → ∃ cs n, W'.cells? 0 (a.add (i * Tryz.prog.cellsOf 9)) (Tryz.prog.cellsOf 9) = some cs ∧ DataW.trod enc Tryz.prog W' 0 (fun b => decide (b < W.heap.size)) true n 9 cs = some ((.lit (.string (Sx i).data.toList)), []) := fun i hi => by
        obtain ⟨n, hn⟩ := Go.Deep.shut_string_cell (enc := enc) (P := Tryz.prog) (w := W') (base := 0) (spare := fun b => decide (b < W.heap.size)) (held := true) Tryz.underlying9 (hcell i hi).2
        refine ⟨[.string (Sx i)], n, ?_, hn⟩
        rw [cells_str, Nat.mul_one]
        refine cells?_one (Nat.zero_le _) ?_
        exact (hB.cell (World.block_lt_of_cell? W _ (hcell i hi).1)).trans (hcell i hi).1
      cases hsp : decide (a.block < W.heap.size) with
      | true =>
        have := Go.Deep.shut_slice_whole_cells (enc := enc) (P := Tryz.prog) (w := W') (base := 0) (spare := fun b => decide (b < W.heap.size)) (held := true) (a := a) (t := 59) Tryz.underlying59 (Nat.zero_le _) hl hm hsp (fun i => .lit (.string (Sx i).data.toList)) (fun _ => []) one
        rw [cells_str, Nat.mul_one, Go.Deep.flatMap_nils, List.append_nil] at this
        exact this
      | false =>
        have hc0 : m = 0 := by
          rcases Nat.eq_zero_or_pos m with h0 | h0
          · exact h0
          · have := World.block_lt_of_cell? W _ (hcell 0 h0).1
            have e : (a.add 0).block = a.block := rfl
            rw [e] at this
            rw [decide_eq_true this] at hsp
            cases hsp
        subst hc0
        obtain rfl : len = 0 := by omega
        have := Go.Deep.shut_slice_cells (enc := enc) (P := Tryz.prog) (w := W') (base := 0) (spare := fun b => decide (b < W.heap.size)) (held := true) (a := a) (len := 0) (cap := 0) (t := 59) Tryz.underlying59 (Nat.zero_le _) hl hm hsp (fun i => .lit (.string (Sx i).data.toList)) (fun _ => []) (fun i hi => absurd hi (Nat.not_lt_zero _))
        rw [Nat.zero_mul, Go.Deep.flatMap_nils, List.append_nil] at this
        exact this
    · obtain ⟨i, hi, rfl⟩ := List.mem_map.1 hs
      have e : (Sx i).size = (Sx i).data.toList.length := by rw [Array.length_toList]; rfl
      rw [e]
      apply hz
      unfold DataW.weights
      rw [Tryz.underlying59]
      refine List.mem_cons_of_mem _ (List.mem_append_left _ ?_)
      exact mem_weightsAll (List.mem_map.2 ⟨i, hi, rfl⟩) (by unfold DataW.weights; exact List.mem_singleton.2 rfl)
end Go.Proofs.YtddfigbpckhfbaaGreatDoor

namespace Go.Proofs.YtddfigbpckhfbaaGreatDoor
open Go.RowKit Go.Lib

/-- The cells of values, one behind the other. -/
def cellsC (l : List Cl) : List Value := l.flatMap Cl.cells
theorem cellsC_snoc (l : List Cl) (x : Cl) : cellsC (l ++ [x]) = cellsC l ++ x.cells := by
  unfold cellsC
  rw [List.flatMap_append]
  simp
theorem cellsC_at {l : List Cl} {j i : Nat} (hj : j < l.length) (hi : i < 3) : (cellsC l)[j * 3 + i]? = l[j].cells[i]? := by
  unfold cellsC
  induction l generalizing j with
  | nil => cases hj
  | cons x l ih =>
    rw [List.flatMap_cons]
    cases j with
    | zero =>
      rw [List.getElem?_append_left (by simp [Cl.cells]; omega)]
      simp
    | succ j =>
      have h5 : x.cells.length = 3 := rfl
      rw [List.getElem?_append_right (by rw [h5]; omega), h5, show (j + 1) * 3 + i - 3 = j * 3 + i by omega]
      exact ih (by simp at hj; omega)
theorem argv_own {W : World} {B : Nat} {v : Value} {l : List Cl} {n : Nat} (hn : l.length = n) (h : W.ownsRow B 38 3 v n (cellsC l)) : ArgV W v l := by
  subst hn
  rcases h.2 with ⟨rfl, h0⟩ | ⟨q, cap, cur, rfl, hbq, hq, hc1, hc2, _, _⟩
  · have : l = [] := List.length_eq_zero_iff.1 h0
    subst this
    exact ⟨none, 0, rfl, Nat.le_refl _, Nat.zero_le _, fun j hj => absurd hj (Nat.not_lt_zero _)⟩
  · refine ⟨_, cap, rfl, hc1, hc2, fun j hj => ⟨q, 0, rfl, fun i hi => ?_⟩⟩
    have h2 : l[j].cells[i]? = some (l[j].cells[i]'(by simpa [Cl.cells] using hi)) := List.getElem?_eq_getElem _
    rw [Nat.zero_add, h2]
    have h3 := h.cells (g := q) rfl (j * 3 + i) _ (by rw [cellsC_at hj hi, h2])
    rw [Go.WideShapes.add_plain, Nat.zero_add] at h3
    exact h3
theorem info_cell : (Tryz.prog.info? 38).map (fun i => (i.zero, i.size, i.bytes)) = some (some (.agg #[.int .i64 0, .float .f64 0, .string ⟨#[]⟩]), 3, 32) := by kernel_rfl
def dsh (s : ByteArray) : ByteArray := (⟨#[45, 45, 45]⟩ : ByteArray).extract 0 (min s.size 3)
set_option maxRecDepth 100000 in
theorem dashes_any (s : ByteArray) (w : World) (hs : s.size ≤ 9223372036854775807) : Calls Tryz.prog 31 #[.string s] w fun e w' => e = .returned (.string (dsh s)) ∧ w = w' := by
  obtain ⟨n, hn⟩ : ∃ n, min s.size 3 = n := ⟨_, rfl⟩
  unfold dsh
  rw [hn]
  have hm : min (s.size : Int) 3 = (n : Int) := by omega
  have h3 : n ≤ 3 := by omega
  have i3 : (n : Int) ≤ 3 := by omega
  have i0 : (0 : Int) ≤ (n : Int) := by omega
  clear hn
  go_enter Tryz.func31, Tryz.ntmps31
  go_wp2_with fail
  go_ret
  exact ⟨rfl, rfl⟩
theorem dsh_fine (s : ByteArray) : (dsh s).size ≤ 3 ∧ ∀ i, i < (dsh s).size → atB (dsh s) i ≠ 37 := by
  have h : min s.size 3 = 0 ∨ min s.size 3 = 1 ∨ min s.size 3 = 2 ∨ min s.size 3 = 3 := by omega
  unfold dsh
  rcases h with h | h | h | h <;> rw [h] <;> refine ⟨by decide, ?_⟩
  · intro i hi; exact absurd hi (by show ¬ i < 0; omega)
  · intro i hi
    have : i = 0 := by have : i < 1 := hi; omega
    subst this; decide
  · intro i hi
    have : i = 0 ∨ i = 1 := by have : i < 2 := hi; omega
    rcases this with rfl | rfl <;> decide
  · intro i hi
    have : i = 0 ∨ i = 1 ∨ i = 2 := by have : i < 3 := hi; omega
    rcases this with rfl | rfl | rfl <;> decide
theorem psN_size {d : ByteArray} (hd : d.size ≤ 3) : ∀ n, (psN d n).size ≤ 5 * n := by
  intro n
  induction n with
  | zero => exact Nat.le_refl _
  | succ n ih =>
    show (psN d n ++ (psS ++ d)).size ≤ _
    rw [size_two, size_two]
    have : psS.size = 2 := rfl
    omega
theorem psT_size {d : ByteArray} (hd : d.size ≤ 3) : ∀ (l : List ByteArray), (∀ s ∈ l, s.size ≤ 140737488355328) → (psT d l).size ≤ 140737488355331 * l.length := by
  intro l
  induction l with
  | nil => intro _; exact Nat.le_refl _
  | cons s t ih =>
    intro h
    have h1 := ih (fun x hx => h x (List.mem_cons_of_mem _ hx))
    have h2 := h s (List.mem_cons_self ..)
    show ((s ++ d) ++ psT d t).size ≤ _
    rw [size_two, size_two, List.length_cons]
    omega
/-- Where a percent sign stands a part begins. -/
theorem psN_some {d : ByteArray} (hd : ∀ i, i < d.size → atB d i ≠ 37) : ∀ n k, k < (psN d n).size → atB (psN d n) k = 37 → partF (psN d n) k ≠ none := by
  intro n
  induction n with
  | zero => intro k hk; exact absurd hk (Nat.not_lt_zero _)
  | succ n ih =>
    intro k hk h37 hp
    rcases Nat.lt_or_ge k (psN d n).size with h | h
    · cases hq : partF (psN d n) k with
      | some y =>
        have := part_left (G := psD d) hq
        rw [show partF (psN d n ++ psD d) k = none from hp] at this
        cases this
      | none => exact ih k h (by rw [← atB_left (F := psN d n) (G := psD d) h]; exact h37) hq
    · obtain ⟨j, rfl⟩ : ∃ j, k = (psN d n).size + j := ⟨k - (psN d n).size, by omega⟩
      have e37 : atB (psD d) j = 37 := by
        rw [← atB_right (F := psN d n) (G := psD d) (k := j)]
        exact h37
      have hj : j = 0 := by
        rcases Nat.eq_zero_or_pos j with e | e
        · exact e
        · exfalso
          have hlt : j < (psD d).size := atB_size (by omega)
          unfold psD at e37 hlt
          rw [size_two] at hlt
          have h2 : psS.size = 2 := rfl
          rcases Nat.lt_or_ge j 2 with e2 | e2
          · obtain rfl : j = 1 := by omega
            rw [atB_left (by omega)] at e37
            exact absurd e37 (by decide)
          · obtain ⟨i, rfl⟩ : ∃ i, j = psS.size + i := ⟨j - 2, by omega⟩
            rw [atB_right] at e37
            exact hd i (by omega) e37
      subst hj
      have hq := part_right (F := psN d n) (part_left (G := d) part_ps)
      rw [show partF (psN d n ++ (psS ++ d)) ((psN d n).size + 0) = none from hp] at hq
      cases hq
/-- Every part of the format is one by s alone. -/
theorem psN_parts {d : ByteArray} (hd : ∀ i, i < d.size → atB d i ≠ 37) : ∀ n k x, partF (psN d n) k = some x → x.c = 115 ∧ x.sw = false ∧ x.wd = 0 ∧ x.sp = false ∧ x.pr = -1 := by
  intro n
  induction n with
  | zero =>
    intro k x h
    have := (part_ends h).2.1
    have := (part_ends h).1
    have : (psN d 0).size = 0 := rfl
    omega
  | succ n ih =>
    intro k x h
    obtain ⟨q1, q2, q3, -⟩ := part_ends h
    rcases Nat.lt_or_ge k (psN d n).size with hk | hk
    · cases hp : partF (psN d n) k with
      | some y =>
        have := part_left (G := psD d) hp
        rw [show partF (psN d n ++ psD d) k = some x from h] at this
        cases this
        exact ih k x hp
      | none =>
        exfalso
        have h37 : atB (psN d n) k = 37 := by
          have := atB_left (F := psN d n) (G := psD d) hk
          rw [← this]
          exact q3
        exact psN_some hd n k hk h37 hp
    · obtain ⟨j, rfl⟩ : ∃ j, k = (psN d n).size + j := ⟨k - (psN d n).size, by omega⟩
      have h37 : atB (psD d) j = 37 := by
        have := atB_right (F := psN d n) (G := psD d) (k := j)
        rw [← this]
        exact q3
      have hj : j = 0 := by
        rcases Nat.eq_zero_or_pos j with e | e
        · exact e
        · exfalso
          have hlt : j < (psD d).size := atB_size (by omega)
          unfold psD at h37 hlt
          rw [size_two] at hlt
          have h2 : psS.size = 2 := rfl
          rcases Nat.lt_or_ge j 2 with e2 | e2
          · obtain rfl : j = 1 := by omega
            rw [atB_left (by omega)] at h37
            exact absurd h37 (by decide)
          · obtain ⟨i, rfl⟩ : ∃ i, j = psS.size + i := ⟨j - 2, by omega⟩
            rw [atB_right] at h37
            exact hd i (by omega) h37
      subst hj
      have hp := part_right (F := psN d n) (part_left (G := d) part_ps)
      rw [show partF (psN d n ++ (psS ++ d)) ((psN d n).size + 0) = some x from h] at hp
      cases hp
      exact ⟨rfl, rfl, rfl, rfl, rfl⟩
end Go.Proofs.YtddfigbpckhfbaaGreatDoor

namespace Go.Proofs.YtddfigbpckhfbaaGreatDoor
open Go.RowKit Go.Lib

def cT (s : ByteArray) : Cl := ⟨2, 0, s⟩
theorem texts_vals (C : ByteArray) (ss : List ByteArray) (h : ∀ s ∈ ss, s.size ≤ 140737488355328) : Vals C (fun _ => ⟨#[]⟩) (ss.map cT) := ⟨fun c hc => by
    obtain ⟨s, hs, rfl⟩ := List.mem_map.1 hc
    exact ⟨by show (0 : Nat) < _; omega, h s hs⟩,
  fun c hc hk => by
    obtain ⟨s, hs, rfl⟩ := List.mem_map.1 hc
    exact absurd hk (by show ¬ (2 : Int) = 1; omega)⟩
theorem texts_bare {d : ByteArray} (hd : ∀ i, i < d.size → atB d i ≠ 37) (n : Nat) (ss : List ByteArray) (h : ∀ s ∈ ss, s.size ≤ 140737488355328) : ∀ k x, partF (psN d n) k = some x → Bare (fun _ => ⟨#[]⟩) x (ss.map cT) := fun k x hx => by
  obtain ⟨p1, p2, p3, p4, p5⟩ := psN_parts hd n k x hx
  refine ⟨p1, p2, p3, p4, p5, fun c hc => ?_⟩
  obtain ⟨s, hs, rfl⟩ := List.mem_map.1 hc
  show (wrT 2 s ⟨#[]⟩).size ≤ _
  unfold wrT
  rw [if_neg (by decide), if_pos (by decide)]
  exact h s hs
theorem texts_call {d : ByteArray} (hds : d.size ≤ 3) (hd : ∀ i, i < d.size → atB d i ≠ 37) (ss : List ByteArray) (h : ∀ s ∈ ss, s.size ≤ 140737488355328) (hn : ss.length ≤ 50) (v : Value) (W : World) (B : Nat) (hv : W.ownsRow B 38 3 v ss.length (cellsC (ss.map cT))) (hT : PowTab W) (hU : Utf8Tabs 3 4 W) :
    Calls Tryz.prog 27 #[.string (psN d ss.length), v, .agg #[.string ⟨#[]⟩, .bool false]] W fun e w' => ((1024 < (psT d ss).size ∧ e = .returned (.tuple #[.string ⟨#[]⟩, .int .i64 3])) ∨ (¬ 1024 < (psT d ss).size ∧ e = .returned (.tuple #[.string (psT d ss), .int .i64 0]))) ∧ Below W.heap.size W w' := by
  have hf := psN_size hds ss.length
  have ha := argv_own (l := ss.map cT) (by rw [List.length_map]) hv
  have hr := spr_psN (cv := fun _ => ⟨#[]⟩) (by' := false) hd ss [] (by decide)
  have := sprintf_any (psN d ss.length) ⟨#[]⟩ false (fun _ => ⟨#[]⟩) (ss.map cT) v W (by omega) ha (texts_vals _ ss h) (Or.inr (texts_bare hd _ ss h)) hT hU
  rw [show ss.map cT = ss.map (fun s => (⟨2, 0, s⟩ : Cl)) from rfl, hr] at this
  refine this.mono fun e w' q => ⟨?_, q.2⟩
  rw [List.length_nil, Nat.zero_add] at q
  by_cases hl : 1024 < (psT d ss).size
  · rw [if_pos hl] at q
    exact Or.inl ⟨hl, q.1⟩
  · rw [if_neg hl] at q
    refine Or.inr ⟨hl, ?_⟩
    rw [q.1]
    show Ending.returned (.tuple #[.string ⟨([] ++ (psT d ss).data.toList).toArray⟩, .int .i64 0]) = _
    rw [List.nil_append, Lib.mk_data]
theorem own_below {W W' : World} {B : Nat} {e : TypeId} {sz : Nat} {v : Value} {n : Nat} {xs : List Value} (h : W.ownsRow B e sz v n xs) (hb : Below W.heap.size W W') : W'.ownsRow B e sz v n xs := by
  refine ⟨h.1, ?_⟩
  rcases h.2 with h1 | ⟨q, cap, cur, hv, hbq, hq, r⟩
  · exact Or.inl h1
  · exact Or.inr ⟨q, cap, cur, hv, hbq, (hb.block q (Array.getElem?_eq_some_iff.1 hq).1).trans hq, r⟩
theorem prf_row_new (w : World) (cs : Array Value) (t : TypeId) : ∀ j u, cs.toList[j]? = some u → (w.alloc (.cells cs t)).cell? ((⟨w.heap.size, 0, none⟩ : Addr).add j) = some u := fun j u hu => by
  have hb := Five.new w cs t
  rw [Go.WideShapes.add_plain, Nat.zero_add, hb.cell]
  simpa using hu
structure TxSt (w W : World) (B : Nat) (d : ByteArray) (ss : List ByteArray) (fv wv av kv : Value) (k : Nat) : Prop where
  fe : fv = .string (psN d k)
  we : wv = .string (psT d (ss.take k))
  ke : kv = .int .i64 (k : Int)
  le : k ≤ ss.length
  fifty : k ≤ 50
  row : W.ownsRow B 38 3 av k (cellsC ((ss.take k).map cT))
  bel : Below B w W
set_option maxRecDepth 100000 in
set_option maxHeartbeats 16000000 in
theorem printfTexts_any (A : Option Addr) (ca : Nat) (ss : List ByteArray) (sep : ByteArray) (w : World) (hs : ∀ s ∈ ss, s.size ≤ 140737488355328) (hr : RdS w A ss) (hsep : sep.size ≤ 9223372036854775807) (hT : PowTab w) (hU : Utf8Tabs 3 4 w) :
    Calls Tryz.prog 8 #[.slice A ss.length ca, .string sep] w fun e w' => e = .returned (.bool true) ∧ Below w.heap.size w w' := by
  have CF := Lib.hid (pfixed_any w hT hU)
  obtain ⟨hds, hd⟩ := dsh_fine sep
  have CD := Lib.hid (fun W => dashes_any sep W hsep)
  have HTW := Lib.hid (fun (W : World) (h : Below w.heap.size w W) => And.intro (Lib.tabBelow_of_tabIs hT _ h) (tabs_below hU h (Nat.le_refl _)))
  have HR := Lib.hid hr
  have HS := Lib.hid hs
  obtain ⟨i0, hi⟩ := info_parts info_cell
  have HI := Lib.hid hi
  clear hi
  obtain ⟨d, hdd⟩ : ∃ d, dsh sep = d := ⟨_, rfl⟩
  have CD := CD.out
  rw [hdd] at hds hd CD
  have CD := Lib.hid CD
  have HD := Lib.hid hd
  obtain ⟨B, hB⟩ : ∃ B, w.heap.size = B := ⟨_, rfl⟩
  have CF := CF.out
  have HTW := HTW.out
  rw [hB] at CF HTW ⊢
  have CF := Lib.hid CF
  have HTW := Lib.hid HTW
  have HB := Lib.hid hB
  obtain ⟨n, hn⟩ : ∃ n, ss.length = n := ⟨_, rfl⟩
  rw [hn]
  have HN := Lib.hid hn
  clear hT hU hr hs hdd hd hB hn
  go_enter Tryz.func8, Tryz.ntmps8
  go_wp2_with fail
  refine CF.out.mono ?_
  rintro e W1 ⟨rfl, h1⟩
  have HB1 := Lib.hid h1
  clear h1
  go_wp2_with fail
  go_loopw [5, 6, 7, 16] (fun fv wv sv kv wr => ∃ (v : Value) (k : Nat), v = sv ∧ TxSt w wr B d ss fv wv v kv k) (fun _ _ _ kv _ => n - (RowKit.intOf kv).toNat)
  case atStart => exact ⟨_, 0, rfl, rfl, rfl, rfl, Nat.zero_le _, by omega, World.ownsRow_nil _ _ _ _, HB1.out⟩
  case round =>
    obtain ⟨av, k, rfl, rfl, rfl, rfl, hk, h50, hrow, hbel⟩ := hrel
    have hkn : k ≤ n := by have := HN.out; omega
    have HBr := Lib.hid hbel
    have HRow := Lib.hid hrow
    have hft : (ss.take k).length = k := by rw [List.length_take]; omega
    have hps := psN_size hds k
    have hpt := psT_size hds (ss.take k) (fun s h => HS.out s (List.mem_of_mem_take h))
    rw [hft] at hpt
    have hfin : Calls Tryz.prog 27 #[.string (psN d k), av, .agg #[.string ⟨#[]⟩, .bool false]] wr fun e w' => ((1024 < (psT d (ss.take k)).size ∧ e = .returned (.tuple #[.string ⟨#[]⟩, .int .i64 3])) ∨ (¬ 1024 < (psT d (ss.take k)).size ∧ e = .returned (.tuple #[.string (psT d (ss.take k)), .int .i64 0]))) ∧ Below wr.heap.size wr w' := by
      have := texts_call hds HD.out (ss.take k) (fun s h => HS.out s (List.mem_of_mem_take h)) (by omega) av wr B (by rw [hft]; exact hrow) (HTW.out _ hbel).1 (HTW.out _ hbel).2
      rwa [hft] at this
    have hBw : B ≤ wr.heap.size := by have := hbel.size; have := HB.out; omega
    have hav : ∃ A2 c2, av = .slice A2 k c2 := by
      rcases hrow.2 with ⟨e, h0⟩ | ⟨q, cap, cur, e, _⟩
      · exact ⟨none, 0, by rw [e, h0]⟩
      · exact ⟨_, _, e⟩
    clear hrow hbel
    by_cases hlt : k < n
    · have hlti : (k : Int) < (n : Int) := by omega
      have hkl : k < ss.length := by have := HN.out; omega
      obtain ⟨b, off, hA, hcl⟩ := HR.out k hkl
      subst hA
      have hcw := (HBr.out.cell (p := ⟨b, off + k, none⟩) (by have := World.block_lt_of_cell? w _ hcl; have := HB.out; simp only at *; omega)).trans hcl
      have hstep := List.take_succ_eq_append_getElem hkl
      have hsz := HS.out _ (List.getElem_mem hkl)
      obtain ⟨s, hsx⟩ : ∃ s, ss[k] = s := ⟨_, rfl⟩
      rw [hsx] at hcw hstep hsz
      have hXn : psT d (ss.take (k + 1)) = psT d (ss.take k) ++ (s ++ d) := by rw [hstep, psT_snoc]
      have hFn : psN d (k + 1) = psN d k ++ (⟨#[37, 115]⟩ ++ d) := rfl
      have hCn : cellsC ((ss.take (k + 1)).map cT) = cellsC ((ss.take k).map cT) ++ [.int .i64 2, .float .f64 0, .string s] := by rw [hstep, List.map_append, List.map_cons, List.map_nil, cellsC_snoc]; rfl
      have HXn := Lib.hid hXn
      have HFn := Lib.hid hFn
      have HCn := Lib.hid hCn
      obtain ⟨X, hX⟩ : ∃ X, psT d (ss.take k) = X := ⟨_, rfl⟩
      obtain ⟨F, hF⟩ : ∃ F, psN d k = F := ⟨_, rfl⟩
      have HXn := HXn.out
      have HFn := HFn.out
      rw [hX] at hfin hpt HXn ⊢
      rw [hF] at hfin hps HFn ⊢
      have HXn := Lib.hid HXn
      have HFn := Lib.hid HFn
      clear hXn hFn hCn hX hF hcl hsx hstep
      by_cases hk50 : k < 50
      · have h50i : ¬ (50 : Int) ≤ (k : Int) := by omega
        have CTx := Lib.hid (fun W => pfText_any s W)
        have z2 : (⟨#[37, 115]⟩ : ByteArray).size = 2 := rfl
        have g1 : ¬ 9223372036854775807 < 2 + d.size := by omega
        have g2 : ¬ 9223372036854775807 < (⟨#[37, 115]⟩ : ByteArray).size + d.size := by omega
        have g3 : ¬ 9223372036854775807 < F.size + (2 + d.size) := by omega
        have g4 : ¬ 9223372036854775807 < s.size + d.size := by omega
        have g5 : ¬ 9223372036854775807 < X.size + (s.size + d.size) := by omega
        have g6 : ¬ 9223372036854775807 < F.size + ((⟨#[37, 115]⟩ : ByteArray) ++ d).size := by rw [size_two]; omega
        have g7 : ¬ 9223372036854775807 < X.size + (s ++ d).size := by rw [size_two]; omega
        clear hfin hps hpt
        go_wp2_with fail
        refine (CD.out _).mono ?_
        rintro e w' ⟨rfl, rfl⟩
        go_wp2_with fail
        refine (CD.out _).mono ?_
        rintro e w' ⟨rfl, rfl⟩
        go_wp2_with fail
        refine (CTx.out _).mono ?_
        rintro e W2 ⟨rfl, h2⟩
        have hrow2 := own_below HRow.out h2
        have hbel2 := HBr.out.trans (h2.mono hBw)
        have hz2 := h2.size
        clear h2 g1 g2 g3 g4 g5 g6 g7 hcw
        go_wp2_with (at_builtin; refine wpList_append_own_at _ rfl _ _ 46 rfl B 38 i0 _ 3 32 Tryz.underlying46 HI.out.1 HI.out.2.1 HI.out.2.2.1 HI.out.2.2.2 rfl (by decide) av k _ rfl (hrow2.alloc _) ⟨W2.heap.size, 0, none⟩ 1 1 [.int .i64 2, .float .f64 0, .string s] rfl rfl (prf_row_new W2 #[.int .i64 2, .float .f64 0, .string s] 38) (by simp [Value.oneCell']) (by unfold maxLen; omega) (by omega) (by simp; omega) ?_)
        intro v' w2 hown2 hgrow _ _
        have hb3 : Below B w w2 := (hbel2.alloc (by omega) (.cells #[.int .i64 2, .float .f64 0, .string s] 38)).grown hgrow (by simp; omega) (fun q hq => (hrow2.lt q hq).1)
        rw [← List.map_take, ← HCn.out] at hown2
        have HO2 := Lib.hid hown2
        have HB3 := Lib.hid hb3
        have hkk : k + 1 ≤ ss.length := by have := HN.out; omega
        clear hown2 hgrow hrow2 hbel2 hb3
        go_wp2_with fail
        go_roundw
        case rel => exact ⟨v', k + 1, rfl, by rw [HFn.out], by rw [HXn.out], by go_num, hkk, by omega, HO2.out, HB3.out⟩
        case measure => simp [RowKit.intOf]; omega
      · have h50i : (50 : Int) ≤ (k : Int) := by omega
        obtain ⟨A2, c2, rfl⟩ := hav
        have CFin := Lib.hid hfin
        clear hfin HRow
        go_wp2_with fail
        refine CFin.out.mono ?_
        rintro e W4 ⟨⟨hgt, rfl⟩ | ⟨hng, rfl⟩, h4⟩
        · have hi : (1024 : Int) < (X.size : Int) := by omega
          have HB4 := Lib.hid (HBr.out.trans (h4.mono hBw))
          clear h4
          go_wp2_with fail
          go_ret
          exact ⟨rfl, HB4.out⟩
        · have hi : ¬ (1024 : Int) < (X.size : Int) := by omega
          have HB4 := Lib.hid (HBr.out.trans (h4.mono hBw))
          clear h4
          go_wp2_with fail
          go_ret
          exact ⟨rfl, HB4.out⟩
    · have hnl : ¬ (k : Int) < (n : Int) := by omega
      obtain ⟨A2, c2, rfl⟩ := hav
      obtain ⟨X, hX⟩ : ∃ X, psT d (ss.take k) = X := ⟨_, rfl⟩
      obtain ⟨F, hF⟩ : ∃ F, psN d k = F := ⟨_, rfl⟩
      rw [hX] at hfin hpt ⊢
      rw [hF] at hfin hps ⊢
      clear hX hF
      have CFin := Lib.hid hfin
      clear hfin HRow
      go_wp2_with fail
      refine CFin.out.mono ?_
      rintro e W4 ⟨⟨hgt, rfl⟩ | ⟨hng, rfl⟩, h4⟩
      · have hi : (1024 : Int) < (X.size : Int) := by omega
        have HB4 := Lib.hid (HBr.out.trans (h4.mono hBw))
        clear h4
        go_wp2_with fail
        go_ret
        exact ⟨rfl, HB4.out⟩
      · have hi : ¬ (1024 : Int) < (X.size : Int) := by omega
        have HB4 := Lib.hid (HBr.out.trans (h4.mono hBw))
        clear h4
        go_wp2_with fail
        go_ret
        exact ⟨rfl, HB4.out⟩
end Go.Proofs.YtddfigbpckhfbaaGreatDoor
