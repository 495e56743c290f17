/- Several texts in one (Contracts of layer 11: sized, by the values that are left; character; Contracts of layer 5: digits in bases of eight and sixteen; Contracts of layer 5: whole; Contracts of layer 5: Number, where it refuses, and of what is no number; Contracts of layer 5: whole, as the pieces; Number, by a verb of whole numbers; Contracts of layer 5: Number, by a verb of whole numbers; whatever the verb; Contracts of layer 11: character). -/
import Derived.Deep.CutBlock
import Derived.Deep.DeepCutAuto
import Derived.Test.YtddfigbpckhfbaaGreatDoorQpt3
import Derived.Test.YtddfigbpckhfbaaGreatDoorQpt6
import Derived.Test.YtddfigbpckhfbaaGreatDoorQpt7
import Derived.Test.YtddfigbpckhfbaaGreatDoorQpt10
import Derived.Test.YtddfigbpckhfbaaGreatDoorQpt11
namespace Go.Proofs.YtddfigbpckhfbaaGreatDoor
open Go.RowKit Go.Lib

theorem figI_bd (x : Nat) : -2000 ≤ figI x ∧ figI x ≤ 2000 := by
  unfold figI
  split <;> omega
/-- What sized leaves. -/
def SizeEnd (w0 : World) (B g : Nat) (S : ByteArray) (k : Nat) (C : ByteArray) (by' : Bool) (o : List UInt8) (x : Pc) (l : List Cl) (e : Ending) (w' : World) : Prop :=
  match szW x.m x.wd x.sw l with
  | none => e = .returned (.tuple #[.agg zs, .int .i64 50]) ∧ ∃ av', Wt w0 w' B g S k av' C by' o
  | some (m, wd, l1) =>
    match szP x.pr x.sp l1 with
    | none => e = .returned (.tuple #[.agg zs, .int .i64 50]) ∧ ∃ av', Wt w0 w' B g S k av' C by' o
    | some (pr, l2) => e = .returned (.tuple #[.agg (sps m x.p x.b x.a x.z wd pr x.c), .int .i64 0]) ∧ ∃ av', ArgV w0 av' l2 ∧ Wt w0 w' B g S k av' C by' o
theorem goes_wt {w0 : World} {B g k : Nat} {S C : ByteArray} {av : Value} {by' : Bool} {o : List UInt8} {Q0 : Nat} (hQ : B ≤ Q0) : Goes Q0 fun w' => Wt w0 w' B g S k av C by' o :=
  ⟨fun _ _ h hb => h.below hb, fun _ _ _ u _ h F hb => h.setSpec F (Nat.le_trans hQ hb) u⟩
theorem goes_some {w0 : World} {B g k : Nat} {S C : ByteArray} {l : List Cl} {by' : Bool} {o : List UInt8} {Q0 : Nat} (hQ : B ≤ Q0) : Goes Q0 fun w' => ∃ av', ArgV w0 av' l ∧ Wt w0 w' B g S k av' C by' o :=
  ⟨fun _ _ ⟨av', q, h⟩ hb => ⟨av', q, h.below hb⟩, fun _ _ _ u _ ⟨av', q, h⟩ F hb => ⟨av', q, h.setSpec F (Nat.le_trans hQ hb) u⟩⟩
theorem goes_any {w0 : World} {B g k : Nat} {S C : ByteArray} {by' : Bool} {o : List UInt8} {Q0 : Nat} (hQ : B ≤ Q0) : Goes Q0 fun w' => ∃ av', Wt w0 w' B g S k av' C by' o :=
  ⟨fun _ _ ⟨av', h⟩ hb => ⟨av', h.below hb⟩, fun _ _ _ u _ ⟨av', h⟩ F hb => ⟨av', h.setSpec F (Nat.le_trans hQ hb) u⟩⟩
theorem wSized_any (w0 W : World) (B g : Nat) (S : ByteArray) (k : Nat) (C : ByteArray) (by' : Bool) (o : List UInt8) (l : List Cl) (av : Value) (x : Pc) (ha : ArgV w0 av l) (h : Wt w0 W B g S k av C by' o) (hf : ∀ c ∈ l, c.fine) :
    Calls Tryz.prog 143 #[.pointer (some ⟨g, 0, none⟩), pcV x] W (SizeEnd w0 B g S k C by' o x l) := by
  obtain ⟨hBQ, hgl⟩ := h.size
  obtain ⟨m, p, b, a, z, wd, pr, c, sw, sp, nx⟩ := x
  have g0 := goes_wt (w0 := w0) (B := B) (g := g) (k := k) (S := S) (C := C) (av := av) (by' := by') (o := o) hBQ
  have ga := goes_any (w0 := w0) (B := B) (g := g) (k := k) (S := S) (C := C) (by' := by') (o := o) hBQ
  have A := fun (W' : World) (l : List Cl) (hf : ∀ c ∈ l, c.fine) (q : ∃ av', ArgV w0 av' l ∧ Wt w0 W' B g S k av' C by' o) => wAmount_any w0 W' B g S k C by' o l q.choose q.choose_spec.1 q.choose_spec.2 hf
  unfold SizeEnd szW szP
  dsimp only
  cases sw with
  | false =>
    rw [if_neg (by decide)]
    dsimp only
    cases sp with
    | false =>
      rw [if_neg (by decide)]
      dsimp only
      exact (sized_nn W g m p b a z wd pr c nx _ g0 h).mono fun e w' q => ⟨q.1, av, ha, q.2⟩
    | true =>
      rw [if_pos rfl]
      cases l with
      | nil => exact (sized_nbad W g m p b a z wd pr c nx _ _ g0 ga h hgl (fun W' q => A W' [] hf ⟨av, ha, q⟩)).mono fun e w' q => q
      | cons y t =>
        have gs := goes_some (w0 := w0) (B := B) (g := g) (k := k) (S := S) (C := C) (l := t) (by' := by') (o := o) hBQ
        dsimp only
        exact (sized_ny W g m p b a z wd pr c nx _ _ g0 gs h hgl (figI y.num) (fun W' q => A W' (y :: t) hf ⟨av, ha, q⟩)).mono fun e w' q => q
  | true =>
    rw [if_pos rfl]
    cases l with
    | nil => exact (sized_bad W g m p b a z wd pr c nx _ _ g0 ga h hgl (fun W' q => A W' [] hf ⟨av, ha, q⟩) sp).mono fun e w' q => q
    | cons y t =>
      have gs := goes_some (w0 := w0) (B := B) (g := g) (k := k) (S := S) (C := C) (l := t) (by' := by') (o := o) hBQ
      have hb := figI_bd y.num
      have hft : ∀ c ∈ t, c.fine := fun c hc => hf c (List.mem_cons_of_mem _ hc)
      dsimp only
      cases sp with
      | false =>
        rw [if_neg (by decide)]
        dsimp only
        exact (sized_yn W g m p b a z wd pr c nx _ _ g0 gs h hgl (figI y.num) hb.1 hb.2 (fun W' q => A W' (y :: t) hf ⟨av, ha, q⟩)).mono fun e w' q => q
      | true =>
        rw [if_pos rfl]
        cases t with
        | nil => exact (sized_ybad W g m p b a z wd pr c nx _ _ _ g0 gs ga h hgl (figI y.num) hb.1 hb.2 (fun W' q => A W' [y] hf ⟨av, ha, q⟩) (fun W' q => A W' [] hft q)).mono fun e w' q => q
        | cons y2 t2 =>
          have gs2 := goes_some (w0 := w0) (B := B) (g := g) (k := k) (S := S) (C := C) (l := t2) (by' := by') (o := o) hBQ
          dsimp only
          exact (sized_yy W g m p b a z wd pr c nx _ _ _ g0 gs gs2 h hgl (figI y.num) hb.1 hb.2 (fun W' q => A W' (y :: y2 :: t2) hf ⟨av, ha, q⟩) (figI y2.num) (fun W' q => A W' (y2 :: t2) hft q)).mono fun e w' q => q
end Go.Proofs.YtddfigbpckhfbaaGreatDoor

namespace Go.Proofs.YtddfigbpckhfbaaGreatDoor
open Go.RowKit Go.Lib

theorem at_madeB (w : World) (n : Nat) : At .u8 (w.alloc (.cells (madeCells #[Value.int .u8 0] n) 5)) w.heap.size 5 [] (List.replicate n 0) [] :=
  ⟨_, heap_alloc_new w _, by
    rw [toList_madeCells_one, nums, List.map_replicate]
    simp⟩
theorem and_low (z : Nat) (hz : z = 3 ∨ z = 4) (m : Nat) (h : m < 18446744073709551616) : bits .and .u64 (m : Int) (2 ^ z - 1) = ((m % 2 ^ z : Nat) : Int) := by
  have e : ((2 : Int) ^ z - 1) = ((2 ^ z - 1 : Nat) : Int) := by rcases hz with rfl | rfl <;> rfl
  have h1 := u64_and_nat m (2 ^ z - 1) h (by rcases hz with rfl | rfl <;> decide)
  rw [Nat.and_two_pow_sub_one_eq_mod] at h1
  rw [e]
  exact h1
theorem wrap_u64 (y : Nat) : IntKind.u64.wrap (y : Int) = ((y % 18446744073709551616 : Nat) : Int) := by
  rw [show IntKind.u64.wrap (y : Int) = (y : Int) % 18446744073709551616 from by simp [IntKind.wrap, IntKind.bits, IntKind.signed]]
  omega
theorem shl_dig {P t z : Nat} (hz : z = 3 ∨ z = 4) (_hP : P < 9007199254740992) : P * 2 ^ min t 64 % 18446744073709551616 % 2 ^ z = P * 2 ^ t % 2 ^ z := by
  rcases Nat.le_total t 64 with h | h
  · rw [Nat.min_eq_left h]
    exact Nat.mod_mod_of_dvd _ (by rcases hz with rfl | rfl <;> decide)
  · rw [Nat.min_eq_right h, Nat.mod_mod_of_dvd _ (by rcases hz with rfl | rfl <;> decide)]
    have e : ∀ u, z ≤ u → P * 2 ^ u % 2 ^ z = 0 := fun u hu => by
      obtain ⟨v, rfl⟩ : ∃ v, u = z + v := ⟨u - z, by omega⟩
      rw [Nat.pow_add, ← Nat.mul_assoc, Nat.mul_comm P, Nat.mul_assoc]
      exact Nat.mul_mod_right _ _
    rw [e 64 (by omega), e t (by omega)]
theorem shr_dig {P t : Nat} (hP : P < 9007199254740992) : P / 2 ^ min t 64 = P / 2 ^ t := by
  rcases Nat.le_total t 64 with h | h
  · rw [Nat.min_eq_left h]
  · rw [Nat.min_eq_right h, Nat.div_eq_of_lt (by omega), Nat.div_eq_of_lt (Nat.lt_of_lt_of_le (by omega : P < 2 ^ 64) (Nat.pow_le_pow_right (by omega) h))]
theorem dig_low {P t z : Nat} (hz : z = 3 ∨ z = 4) (hP : P < 9007199254740992) : bits BinOp.and IntKind.u64 (IntKind.u64.wrap ((P : Int) * 2 ^ min t 64)) (2 ^ z - 1) = ((P * 2 ^ t % 2 ^ z : Nat) : Int) := by
  have e : (P : Int) * 2 ^ min t 64 = ((P * 2 ^ min t 64 : Nat) : Int) := by push_cast; rfl
  rw [e, wrap_u64, and_low z hz _ (Nat.mod_lt _ (by decide)), shl_dig hz hP]
theorem dig_high {P t z : Nat} (hz : z = 3 ∨ z = 4) (hP : P < 9007199254740992) : bits BinOp.and IntKind.u64 (IntKind.u64.wrap ((P : Int) / 2 ^ min t 64)) (2 ^ z - 1) = ((P / 2 ^ t % 2 ^ z : Nat) : Int) := by
  have e : (P : Int) / 2 ^ min t 64 = ((P / 2 ^ min t 64 : Nat) : Int) := by push_cast; rfl
  have hl : P / 2 ^ min t 64 < 18446744073709551616 := Nat.lt_of_le_of_lt (Nat.div_le_self _ _) (by omega)
  rw [e, wrap_u64, Nat.mod_eq_of_lt hl, and_low z hz _ hl, shr_dig hP]
theorem nums_ibT (P : Nat) (E : Int) (z : Nat) (hz : z ≤ 4) : nums .u8 (ibL P E z) = (ibT P E z).map fun x => Value.int .u8 x.toNat := by
  unfold ibT nums ibL
  rw [List.map_map, List.map_map, List.map_map]
  apply List.map_congr_left
  intro i _
  have h := hexC_lt (ibD_lt P E z (ibN P E z) i hz)
  show Value.int .u8 ((hexC (ibD P E z (ibN P E z) i) : Nat) : Int) = Value.int .u8 ((hexC (ibD P E z (ibN P E z) i)).toUInt8.toNat : Int)
  congr 2
  simp only [Nat.toUInt8, UInt8.toNat_ofNat']
  omega
def hexStr : ByteArray := ⟨#[48, 49, 50, 51, 52, 53, 54, 55, 56, 57, 97, 98, 99, 100, 101, 102]⟩
theorem hexStr_at : ∀ d (h : d < 16), (hexStr[d]'h).toNat = hexC d := by decide
theorem ib_more {cur l : List Nat} {k N c : Nat} (hc : cur.length = N) (hl : l.length = N) (hk : k < N) (h : cur.take k = l.take k) (hx : l[k]'(by omega) = c) : (cur.set k c).take (k + 1) = l.take (k + 1) := by
  rw [List.take_succ_eq_append_getElem (by rw [List.length_set]; omega), List.take_succ_eq_append_getElem (by omega), List.getElem_set_self, List.take_set_of_le (Nat.le_refl _), h, hx]
set_option maxRecDepth 100000 in
set_option maxHeartbeats 4000000 in
theorem inBase_any (x z : Nat) (w : World) (hb : x < 18446744073709551616) (h : mag x < 9218868437227405312) (hz : z = 3 ∨ z = 4) : Calls Tryz.prog 218 #[.float .f64 x, .int .i64 (z : Int)] w fun e w' => e = .returned (.string ⟨(ibT (manF (mag x)) (expF (mag x)) z).toArray⟩) ∧ Below w.heap.size w w' := by
  have cP := parts_yes x w hb h
  have hP := manF_lt (r := mag x)
  have hE := expF_le h
  have hE0 : -1074 ≤ expF (mag x) := by unfold expF; split <;> omega
  obtain ⟨P, hPe⟩ : ∃ P, manF (mag x) = P := ⟨_, rfl⟩
  obtain ⟨E, hEe⟩ : ∃ E, expF (mag x) = E := ⟨_, rfl⟩
  rw [hPe] at cP hP ⊢
  rw [hEe] at cP hE hE0 ⊢
  have cL := Tryz.bits_Len64 (P : Int) w (by omega) (by omega)
  rw [Int.toNat_natCast] at cL
  have hL : Lib.bitLen P ≤ 64 := Lib.bitLen_le P 64 (by omega) (by omega)
  have hN := ibN_bd (P := P) (E := E) hP hE hz
  have hNe : max 1 (Int.tdiv ((Lib.bitLen P : Int) + E + (z : Int) - 1) (z : Int)) = (ibN P E z : Int) := by unfold ibN; omega
  obtain ⟨N, hNN⟩ : ∃ N, ibN P E z = N := ⟨_, rfl⟩
  obtain ⟨L, hLL⟩ : ∃ L, Lib.bitLen P = L := ⟨_, rfl⟩
  rw [hNN] at hN hNe
  rw [hLL] at cL hL hNe
  have CP := Lib.hid cP
  have CL := Lib.hid cL
  have HNN := Lib.hid hNN
  obtain ⟨i0, hi, hz0, hz1, hz2⟩ := info_parts info_u8
  have hmk : ∀ W : World, (Instr.makeSlice 56 (.int .i64 (N : Int)) (.int .i64 (N : Int))).run Tryz.prog W = .ok (.slice (some ⟨W.heap.size, 0, none⟩) N N) (W.alloc (.cells (madeCells (Value.int .u8 0).cells (N * 1)) 5)) := fun W => by
    have := run_make (P := Tryz.prog) W 56 5 i0 (.int .u8 0) Tryz.underlying56 hi hz0 .i64 .i64 (N : Int) (N : Int) (by omega) (by omega) (by rw [hz2]; omega) (by omega)
    rw [hz1, Int.toNat_natCast] at this
    exact this
  clear cP cL hPe hEe hLL hNN h hb hi hz0 hz1 hz2
  rcases hz with rfl | rfl
  · go_enter Tryz.func218, Tryz.ntmps218
    go_wp2_with fail
    refine CP.out.mono ?_
    rintro e w' ⟨rfl, rfl⟩
    go_wp2_with fail
    refine CL.out.mono ?_
    rintro e w' ⟨rfl, rfl⟩
    have hN3 : max 1 (Int.tdiv ((L : Int) + E + 3 - 1) 3) = (N : Int) := hNe
    go_wp2_with fail
    have hO0 := own_of_at (B := w'.heap.size) (cap := N) (at_madeB w' N) (Nat.le_refl _) (by simp) (by unfold maxLen; omega)
    rw [List.length_replicate] at hO0
    have hB0 := (Below.refl w'.heap.size w').alloc (Nat.le_refl _) (.cells (madeCells #[Value.int .u8 0] N) 5)
    go_loopw [33] (fun i wr => ∃ (k : Nat) (cur : List Nat), k ≤ N ∧ i = .int .i64 k ∧ cur.length = N ∧ cur.take k = (ibL P E 3).take k ∧ Own .u8 wr w'.heap.size 5 (.slice (some ⟨w'.heap.size, 0, none⟩) N N) cur ∧ Below w'.heap.size w' wr) (fun i _ => N - (RowKit.intOf i).toNat)
    case atStart => exact ⟨0, _, Nat.zero_le _, rfl, List.length_replicate, rfl, hO0, hB0⟩
    case round =>
      clear hO0 hB0
      obtain ⟨k, cur, hk, rfl, hcl, hpre, hO, hB⟩ := hrel
      by_cases hlt : k < N
      · have hd := ibD_lt P E 3 N k (by decide)
        obtain ⟨sh, hsh⟩ : ∃ sh : Int, ((N : Int) - 1 - (k : Int)) * 3 - E = sh := ⟨_, rfl⟩
        have hd2 : ibD P E 3 N k = P / 2 ^ sh.toNat * 2 ^ (-sh).toNat % 2 ^ 3 := by unfold ibD ibS; rw [← hsh]; rfl
        have hcell := hO.cell k (by omega)
        have hf : wr.frozen? ⟨w'.heap.size, k, none⟩ = false := World.ownsRow.frozenAt (hO.row hcl) k
        have HO := Lib.hid hO
        have HB := Lib.hid hB
        have HPRE := Lib.hid hpre
        clear hO hB hpre
        rcases Int.lt_or_le sh 0 with q | q
        · obtain ⟨t, rfl⟩ : ∃ t : Nat, sh = -(t : Int) := ⟨(-sh).toNat, by omega⟩
          have hm1 : max 0 (-(t : Int)) = 0 := by omega
          have hm2 : max 0 (t : Int) = (t : Int) := by omega
          have hdv : ibD P E 3 N k = P * 2 ^ t % 2 ^ 3 := by rw [hd2]; rw [show (-(t : Int)).toNat = 0 by omega, show (-(-(t : Int))).toNat = t by omega, Nat.pow_zero, Nat.div_one]
          have hdig : bits BinOp.and IntKind.u64 (IntKind.u64.wrap ((P : Int) * 2 ^ min t 64)) 7 = ((ibD P E 3 N k : Nat) : Int) := by rw [hdv]; exact dig_low (z := 3) (Or.inl rfl) hP
          obtain ⟨d, hdd⟩ : ∃ d, ibD P E 3 N k = d := ⟨_, rfl⟩
          rw [hdd] at hdig hd
          have hat2 : ((⟨#[48, 49, 50, 51, 52, 53, 54, 55, 56, 57, 97, 98, 99, 100, 101, 102]⟩ : ByteArray)[d]'hd).toNat = hexC d := hexStr_at d hd
          have HDD := Lib.hid hdd
          clear hd2 hdv hdd
          go_wp2_with fail
          go_region
          all_goals
            go_wp2_with fail
            refine ⟨⟨k + 1, cur.set k (hexC d), by omega, vint (by omega), by rw [List.length_set]; exact hcl, ib_more hcl (by rw [ibL_len]; exact HNN.out) hlt HPRE.out (by simp only [ibL, List.getElem_map, List.getElem_range]; rw [HNN.out, HDD.out]), ?_, ?_⟩, by simp [RowKit.intOf]; omega⟩
            · exact (HO.out.set hcl.symm k (hexC d)).drew
            · exact (HB.out.setCell (p := ⟨w'.heap.size, k, none⟩) (Nat.le_refl _) _).drew
        · obtain ⟨t, rfl⟩ : ∃ t : Nat, sh = (t : Int) := ⟨(sh).toNat, by omega⟩
          have hm1 : max 0 (-(t : Int)) = 0 := by omega
          have hm2 : max 0 (t : Int) = (t : Int) := by omega
          have hdv : ibD P E 3 N k = P / 2 ^ t % 2 ^ 3 := by rw [hd2]; rw [show (-(t : Int)).toNat = 0 by omega, Int.toNat_natCast, Nat.pow_zero, Nat.mul_one]
          have hdig : bits BinOp.and IntKind.u64 (IntKind.u64.wrap ((P : Int) / 2 ^ min t 64)) 7 = ((ibD P E 3 N k : Nat) : Int) := by rw [hdv]; exact dig_high (z := 3) (Or.inl rfl) hP
          obtain ⟨d, hdd⟩ : ∃ d, ibD P E 3 N k = d := ⟨_, rfl⟩
          rw [hdd] at hdig hd
          have hat2 : ((⟨#[48, 49, 50, 51, 52, 53, 54, 55, 56, 57, 97, 98, 99, 100, 101, 102]⟩ : ByteArray)[d]'hd).toNat = hexC d := hexStr_at d hd
          have HDD := Lib.hid hdd
          clear hd2 hdv hdd
          go_wp2_with fail
          go_region
          all_goals
            go_wp2_with fail
            refine ⟨⟨k + 1, cur.set k (hexC d), by omega, vint (by omega), by rw [List.length_set]; exact hcl, ib_more hcl (by rw [ibL_len]; exact HNN.out) hlt HPRE.out (by simp only [ibL, List.getElem_map, List.getElem_range]; rw [HNN.out, HDD.out]), ?_, ?_⟩, by simp [RowKit.intOf]; omega⟩
            · exact (HO.out.set hcl.symm k (hexC d)).drew
            · exact (HB.out.setCell (p := ⟨w'.heap.size, k, none⟩) (Nat.le_refl _) _).drew
      · have hkn : k = N := by omega
        subst hkn
        have hc2 : cur = ibL P E 3 := by
          have h1 : cur.take k = cur := List.take_of_length_le (by omega)
          have h2 : (ibL P E 3).take k = ibL P E 3 := List.take_of_length_le (by rw [ibL_len, HNN.out]; exact Nat.le_refl _)
          rw [← h1, hpre, h2]
        subst hc2
        have hlT : (ibT P E 3).length = k := by rw [ibT_len, HNN.out]
        have hrow : wr.ownsRow w'.heap.size 5 1 (.slice (some ⟨w'.heap.size, 0, none⟩) k k) (ibT P E 3).length ((ibT P E 3).map fun x => Value.int .u8 x.toNat) := by
          have := hO.row hcl
          rw [nums_ibT _ _ _ (by decide)] at this
          rw [hlT]
          exact this
        have hcv := conv_digits wr w'.heap.size _ _ hrow
        clear hrow hO hpre hlT
        go_wp2
        go_ret
        exact ⟨rfl, hB⟩
  · go_enter Tryz.func218, Tryz.ntmps218
    go_wp2_with fail
    refine CP.out.mono ?_
    rintro e w' ⟨rfl, rfl⟩
    go_wp2_with fail
    refine CL.out.mono ?_
    rintro e w' ⟨rfl, rfl⟩
    have hN3 : max 1 (Int.tdiv ((L : Int) + E + 4 - 1) 4) = (N : Int) := hNe
    go_wp2_with fail
    have hO0 := own_of_at (B := w'.heap.size) (cap := N) (at_madeB w' N) (Nat.le_refl _) (by simp) (by unfold maxLen; omega)
    rw [List.length_replicate] at hO0
    have hB0 := (Below.refl w'.heap.size w').alloc (Nat.le_refl _) (.cells (madeCells #[Value.int .u8 0] N) 5)
    go_loopw [33] (fun i wr => ∃ (k : Nat) (cur : List Nat), k ≤ N ∧ i = .int .i64 k ∧ cur.length = N ∧ cur.take k = (ibL P E 4).take k ∧ Own .u8 wr w'.heap.size 5 (.slice (some ⟨w'.heap.size, 0, none⟩) N N) cur ∧ Below w'.heap.size w' wr) (fun i _ => N - (RowKit.intOf i).toNat)
    case atStart => exact ⟨0, _, Nat.zero_le _, rfl, List.length_replicate, rfl, hO0, hB0⟩
    case round =>
      clear hO0 hB0
      obtain ⟨k, cur, hk, rfl, hcl, hpre, hO, hB⟩ := hrel
      by_cases hlt : k < N
      · have hd := ibD_lt P E 4 N k (by decide)
        obtain ⟨sh, hsh⟩ : ∃ sh : Int, ((N : Int) - 1 - (k : Int)) * 4 - E = sh := ⟨_, rfl⟩
        have hd2 : ibD P E 4 N k = P / 2 ^ sh.toNat * 2 ^ (-sh).toNat % 2 ^ 4 := by unfold ibD ibS; rw [← hsh]; rfl
        have hcell := hO.cell k (by omega)
        have hf : wr.frozen? ⟨w'.heap.size, k, none⟩ = false := World.ownsRow.frozenAt (hO.row hcl) k
        have HO := Lib.hid hO
        have HB := Lib.hid hB
        have HPRE := Lib.hid hpre
        clear hO hB hpre
        rcases Int.lt_or_le sh 0 with q | q
        · obtain ⟨t, rfl⟩ : ∃ t : Nat, sh = -(t : Int) := ⟨(-sh).toNat, by omega⟩
          have hm1 : max 0 (-(t : Int)) = 0 := by omega
          have hm2 : max 0 (t : Int) = (t : Int) := by omega
          have hdv : ibD P E 4 N k = P * 2 ^ t % 2 ^ 4 := by rw [hd2]; rw [show (-(t : Int)).toNat = 0 by omega, show (-(-(t : Int))).toNat = t by omega, Nat.pow_zero, Nat.div_one]
          have hdig : bits BinOp.and IntKind.u64 (IntKind.u64.wrap ((P : Int) * 2 ^ min t 64)) 15 = ((ibD P E 4 N k : Nat) : Int) := by rw [hdv]; exact dig_low (z := 4) (Or.inr rfl) hP
          obtain ⟨d, hdd⟩ : ∃ d, ibD P E 4 N k = d := ⟨_, rfl⟩
          rw [hdd] at hdig hd
          have hat2 : ((⟨#[48, 49, 50, 51, 52, 53, 54, 55, 56, 57, 97, 98, 99, 100, 101, 102]⟩ : ByteArray)[d]'hd).toNat = hexC d := hexStr_at d hd
          have HDD := Lib.hid hdd
          clear hd2 hdv hdd
          go_wp2_with fail
          go_region
          all_goals
            go_wp2_with fail
            refine ⟨⟨k + 1, cur.set k (hexC d), by omega, vint (by omega), by rw [List.length_set]; exact hcl, ib_more hcl (by rw [ibL_len]; exact HNN.out) hlt HPRE.out (by simp only [ibL, List.getElem_map, List.getElem_range]; rw [HNN.out, HDD.out]), ?_, ?_⟩, by simp [RowKit.intOf]; omega⟩
            · exact (HO.out.set hcl.symm k (hexC d)).drew
            · exact (HB.out.setCell (p := ⟨w'.heap.size, k, none⟩) (Nat.le_refl _) _).drew
        · obtain ⟨t, rfl⟩ : ∃ t : Nat, sh = (t : Int) := ⟨(sh).toNat, by omega⟩
          have hm1 : max 0 (-(t : Int)) = 0 := by omega
          have hm2 : max 0 (t : Int) = (t : Int) := by omega
          have hdv : ibD P E 4 N k = P / 2 ^ t % 2 ^ 4 := by rw [hd2]; rw [show (-(t : Int)).toNat = 0 by omega, Int.toNat_natCast, Nat.pow_zero, Nat.mul_one]
          have hdig : bits BinOp.and IntKind.u64 (IntKind.u64.wrap ((P : Int) / 2 ^ min t 64)) 15 = ((ibD P E 4 N k : Nat) : Int) := by rw [hdv]; exact dig_high (z := 4) (Or.inr rfl) hP
          obtain ⟨d, hdd⟩ : ∃ d, ibD P E 4 N k = d := ⟨_, rfl⟩
          rw [hdd] at hdig hd
          have hat2 : ((⟨#[48, 49, 50, 51, 52, 53, 54, 55, 56, 57, 97, 98, 99, 100, 101, 102]⟩ : ByteArray)[d]'hd).toNat = hexC d := hexStr_at d hd
          have HDD := Lib.hid hdd
          clear hd2 hdv hdd
          go_wp2_with fail
          go_region
          all_goals
            go_wp2_with fail
            refine ⟨⟨k + 1, cur.set k (hexC d), by omega, vint (by omega), by rw [List.length_set]; exact hcl, ib_more hcl (by rw [ibL_len]; exact HNN.out) hlt HPRE.out (by simp only [ibL, List.getElem_map, List.getElem_range]; rw [HNN.out, HDD.out]), ?_, ?_⟩, by simp [RowKit.intOf]; omega⟩
            · exact (HO.out.set hcl.symm k (hexC d)).drew
            · exact (HB.out.setCell (p := ⟨w'.heap.size, k, none⟩) (Nat.le_refl _) _).drew
      · have hkn : k = N := by omega
        subst hkn
        have hc2 : cur = ibL P E 4 := by
          have h1 : cur.take k = cur := List.take_of_length_le (by omega)
          have h2 : (ibL P E 4).take k = ibL P E 4 := List.take_of_length_le (by rw [ibL_len, HNN.out]; exact Nat.le_refl _)
          rw [← h1, hpre, h2]
        subst hc2
        have hlT : (ibT P E 4).length = k := by rw [ibT_len, HNN.out]
        have hrow : wr.ownsRow w'.heap.size 5 1 (.slice (some ⟨w'.heap.size, 0, none⟩) k k) (ibT P E 4).length ((ibT P E 4).map fun x => Value.int .u8 x.toNat) := by
          have := hO.row hcl
          rw [nums_ibT _ _ _ (by decide)] at this
          rw [hlT]
          exact this
        have hcv := conv_digits wr w'.heap.size _ _ hrow
        clear hrow hO hpre hlT
        go_wp2
        go_ret
        exact ⟨rfl, hB⟩
end Go.Proofs.YtddfigbpckhfbaaGreatDoor

namespace Go.Proofs.YtddfigbpckhfbaaGreatDoor
open Go.RowKit Go.Lib

set_option maxRecDepth 100000 in
set_option maxHeartbeats 8000000 in
theorem whole_core (m p b a z : Bool) (wd pr : Int) (c x : Nat) (lo nz : Bool) (SG D BS D1 D2 : ByteArray) (w : World) (h0 : -1 ≤ pr) (h1 : pr ≤ 190)
    (hlo : (FloatKind.f64.format.order x 0 == some .lt) = lo) (hnz : (FloatKind.f64.format.order x 0 != some .eq) = nz) (hez : (FloatKind.f64.format.order x 0 == some .eq) = !nz)
    (hSG : ∀ W, Calls Tryz.prog 217 #[.agg #[.bool m, .bool p, .bool b, .bool a, .bool z, .int .i64 wd, .int .i64 pr, .int .u8 (c : Int)], .bool lo] W fun e w' => e = .returned (.string SG) ∧ Below W.heap.size W w')
    (hD : (c = 111 ∧ ∀ W, Calls Tryz.prog 218 #[.float .f64 x, .int .i64 3] W fun e w' => e = .returned (.string D) ∧ Below W.heap.size W w')
      ∨ ((c = 120 ∨ c = 88) ∧ ∀ W, Calls Tryz.prog 218 #[.float .f64 x, .int .i64 4] W fun e w' => e = .returned (.string D) ∧ Below W.heap.size W w')
      ∨ ((c ≠ 111 ∧ c ≠ 120 ∧ c ≠ 88) ∧ ∀ W, Calls Tryz.prog 219 #[.float .f64 x, .int .i64 0] W fun e w' => e = .returned (.tuple #[.string D, .int .i64 0]) ∧ Below W.heap.size W w'))
    (hBS : BS = if (c = 120 ∨ c = 88) ∧ a = true ∧ nz = true then ⟨#[48, 120]⟩ else ⟨#[]⟩)
    (hD1 : D1 = if c = 111 ∧ a = true ∧ nz = true then (⟨#[48]⟩ : ByteArray) ++ D else D)
    (hD2 : D2 = if ¬ (c = 111 ∧ a = true) ∧ nz = false ∧ pr = 0 then ⟨#[]⟩ else D1) (hDs : D.size ≤ 10000) (hD2s : D2.size ≤ 10001) :
    Calls Tryz.prog 181 #[.agg #[.bool m, .bool p, .bool b, .bool a, .bool z, .int .i64 wd, .int .i64 pr, .int .u8 (c : Int)], .float .f64 x] w fun e w' => e = .returned (.agg #[.string SG, .string BS, .string (⟨(List.replicate (pr - (D2.size : Int)).toNat 48).toArray⟩ ++ D2)]) ∧ Below w.heap.size w w' := by
  have CG := Lib.hid hSG
  have fP := (Five.new w #[.bool m, .bool p, .bool b, .bool a, .bool z, .int .i64 wd, .int .i64 pr, .int .u8 (c : Int)] 94).alloc (.cells #[.string ⟨#[]⟩, .string ⟨#[]⟩, .string ⟨#[]⟩] 215)
  have fR := Five.new (w.alloc (.cells #[.bool m, .bool p, .bool b, .bool a, .bool z, .int .i64 wd, .int .i64 pr, .int .u8 (c : Int)] 94)) #[.string ⟨#[]⟩, .string ⟨#[]⟩, .string ⟨#[]⟩] 215
  have hB0 := ((Below.refl w.heap.size w).alloc (Nat.le_refl _) (.cells #[.bool m, .bool p, .bool b, .bool a, .bool z, .int .i64 wd, .int .i64 pr, .int .u8 (c : Int)] 94)).alloc (by simp) (.cells #[.string ⟨#[]⟩, .string ⟨#[]⟩, .string ⟨#[]⟩] 215)
  rw [World.size_alloc] at fR
  have hsz : ((w.alloc (.cells #[.bool m, .bool p, .bool b, .bool a, .bool z, .int .i64 wd, .int .i64 pr, .int .u8 (c : Int)] 94)).alloc (.cells #[.string ⟨#[]⟩, .string ⟨#[]⟩, .string ⟨#[]⟩] 215)).heap.size = w.heap.size + 2 := by rw [World.size_alloc, World.size_alloc]
  obtain ⟨B, hB⟩ : ∃ B, w.heap.size = B := ⟨_, rfl⟩
  obtain ⟨W2, hW2⟩ : ∃ W2, (w.alloc (.cells #[.bool m, .bool p, .bool b, .bool a, .bool z, .int .i64 wd, .int .i64 pr, .int .u8 (c : Int)] 94)).alloc (.cells #[.string ⟨#[]⟩, .string ⟨#[]⟩, .string ⟨#[]⟩] 215) = W2 := ⟨_, rfl⟩
  rw [hW2] at fP fR hB0 hsz
  rw [hB] at fP fR hB0 hsz ⊢
  have FP := Lib.hid fP
  have FR := Lib.hid fR
  have HB0 := Lib.hid hB0
  have HSZ := Lib.hid hsz
  have HW2 := Lib.hid hW2
  have HB := Lib.hid hB
  have HDD := Lib.hid hD
  have HBS := Lib.hid hBS
  have HD1 := Lib.hid hD1
  have HD2 := Lib.hid hD2
  have hwr : IntKind.i64.wrap (pr - (D2.size : Int)) = pr - (D2.size : Int) := IntWalk.i64_in _ (by omega)
  have cR := fun W => rep_any 48 (pr - (D2.size : Int)) W (by omega) (by omega)
  obtain ⟨Z, hZ⟩ : ∃ Z : ByteArray, (⟨(List.replicate (pr - (D2.size : Int)).toNat 48).toArray⟩ : ByteArray) = Z := ⟨_, rfl⟩
  rw [hZ] at cR ⊢
  have CR := Lib.hid (show ∀ W, Calls Tryz.prog 216 #[.string ⟨#[48]⟩, .int .i64 (IntKind.i64.wrap (pr - (D2.size : Int)))] W fun e w' => e = .returned (.string Z) ∧ Below W.heap.size W w' from fun W => by rw [hwr]; exact cR W)
  have hZs : Z.size ≤ 200 := by rw [← hZ, ← ba_len]; simp only [List.length_replicate]; omega
  clear cR hwr hZ
  clear fP fR hB0 hsz hW2 hB hD hSG hBS hD1 hD2
  go_enter Tryz.func181, Tryz.ntmps181
  go_wp2_with fail
  rw [HW2.out, HB.out]
  refine (CG.out _).mono ?_
  rintro e W3 ⟨rfl, h3⟩
  have hB3 : B + 2 ≤ W3.heap.size := by have := h3.size; have := HSZ.out; omega
  have fp3 := (FP.out.below h3).alloc (.cells #[.string SG, .string ⟨#[]⟩, .string ⟨#[]⟩] 215)
  have fr3 := (FR.out.below h3).alloc (.cells #[.string SG, .string ⟨#[]⟩, .string ⟨#[]⟩] 215)
  have fg3 := Five.new W3 #[.string SG, .string ⟨#[]⟩, .string ⟨#[]⟩] 215
  have hb3 := HB0.out.trans ((h3.mono (show B ≤ W2.heap.size by have := HSZ.out; omega)).alloc (by omega) (.cells #[.string SG, .string ⟨#[]⟩, .string ⟨#[]⟩] 215))
  have FZ := Five.new W3 #[.string ⟨#[]⟩, .string ⟨#[]⟩, .string ⟨#[]⟩] 215
  obtain ⟨z0, z1, z2, y0, y1, y2⟩ := FZ.three
  obtain ⟨-, -, -, -, -, -, -, p7⟩ := spec_cells fp3
  have FP3 := Lib.hid fp3
  have FR3 := Lib.hid fr3
  have FG3 := Lib.hid fg3
  have HB3 := Lib.hid hb3
  clear h3 FP FR HB0 HSZ FZ fp3 fr3 fg3 hb3
  go_upto_block 0 with (fail)
  clear z0 z1 z2 y0 y1 y2 p7
  obtain ⟨g, hg⟩ : ∃ g, W3.heap.size = g := ⟨_, rfl⟩
  obtain ⟨W4, hW4⟩ : ∃ W4, W3.alloc (.cells #[.string SG, .string ⟨#[]⟩, .string ⟨#[]⟩] 215) = W4 := ⟨_, rfl⟩
  rw [hg] at hB3 FG3
  rw [hW4] at FP3 FR3 FG3 HB3
  rw [hg, hW4]
  clear hg hW4
  have hle4 : B ≤ W4.heap.size := by have := FG3.out.lt; omega
  go_cut [] (fun wx => Five wx g #[.string SG, .string BS, .string D] 215 ∧ Five wx B #[.bool m, .bool p, .bool b, .bool a, .bool z, .int .i64 wd, .int .i64 pr, .int .u8 (c : Int)] 94 ∧ Five wx (B + 1) #[.string ⟨#[]⟩, .string ⟨#[]⟩, .string ⟨#[]⟩] 215 ∧ Below B w wx)
  case first =>
    obtain ⟨-, -, -, p3, -, -, -, -⟩ := spec_cells FP3.out
    rcases HDD.out with ⟨h, C⟩ | ⟨h, C⟩ | ⟨h, C⟩
    · have C := Lib.hid C
      subst h
      have hbs := HBS.out
      rw [if_neg (by omega)] at hbs
      clear HDD p3
      go_wp2_with fail
      refine (C.out _).mono ?_
      rintro e W5 ⟨rfl, h5⟩
      have F5 := FG3.out.below h5
      obtain ⟨q0, q1, q2, r0, r1, r2⟩ := F5.three
      have HF5 := Lib.hid F5
      have H5 := Lib.hid h5
      clear F5 h5
      go_wp2_with fail
      go_meet
      rw [hbs]
      exact ⟨HF5.out.set (j := 2) (u := .string D), (FP3.out.below H5.out).other (by omega), (FR3.out.below H5.out).other (by omega), (HB3.out.trans (H5.out.mono hle4)).setCell (p := ⟨g, 2, none⟩) (show B ≤ g by omega) _⟩
    · have C := Lib.hid C
      clear HDD p3
      have hv1 : ((c : Int) == 111) = false := by rw [beq_eq_false_iff_ne]; omega
      have hv2 : ((c : Int) == 120 || (c : Int) == 88) = true := by rcases h with rfl | rfl <;> rfl
      have HH := Lib.hid h
      rcases h with rfl | rfl
      all_goals
        go_wp2_with fail
        refine (C.out _).mono ?_
        rintro e W5 ⟨rfl, h5⟩
        have F5 := FG3.out.below h5
        obtain ⟨q0, q1, q2, r0, r1, r2⟩ := F5.three
        have P5 := FP3.out.below h5
        have HP5 := Lib.hid P5
        have HQ5 := Lib.hid (P5.other (g' := g) (j := 2) (u := .string D) (by omega))
        obtain ⟨-, -, -, p3, -, -, -, -⟩ := spec_cells HQ5.out
        have HF5 := Lib.hid F5
        have HR5 := Lib.hid (FR3.out.below h5)
        have HB5 := Lib.hid (HB3.out.trans (h5.mono hle4))
        clear F5 h5 P5
        have ne1 : ¬ B = g := by omega
        have ne2 : ¬ g = B := by omega
        have hbs := HBS.out
        cases a with
        | false =>
          rw [if_neg (by simp)] at hbs
          go_wp2_with fail
          go_meet
          rw [hbs]
          exact ⟨HF5.out.set (j := 2) (u := .string D), HQ5.out, HR5.out.other (by omega), HB5.out.setCell (p := ⟨g, 2, none⟩) (show B ≤ g by omega) _⟩
        | true =>
          cases nz with
          | false =>
            rw [if_neg (by simp)] at hbs
            go_wp2_with fail
            go_meet
            rw [hbs]
            exact ⟨HF5.out.set (j := 2) (u := .string D), HQ5.out, HR5.out.other (by omega), HB5.out.setCell (p := ⟨g, 2, none⟩) (show B ≤ g by omega) _⟩
          | true =>
            rw [if_pos ⟨HH.out, rfl, rfl⟩] at hbs
            go_wp2_with fail
            go_meet
            rw [hbs]
            exact ⟨(HF5.out.set (j := 2) (u := .string D)).set (j := 1) (u := .string ⟨#[48, 120]⟩), HQ5.out.other (by omega), (HR5.out.other (by omega)).other (by omega), (HB5.out.setCell (p := ⟨g, 2, none⟩) (show B ≤ g by omega) _).setCell (p := ⟨g, 1, none⟩) (show B ≤ g by omega) _⟩
    · have C := Lib.hid C
      clear HDD p3
      have hv1 : ((c : Int) == 111) = false := by rw [beq_eq_false_iff_ne]; omega
      have hv2 : ((c : Int) == 120) = false := by rw [beq_eq_false_iff_ne]; omega
      have hv3 : ((c : Int) == 88) = false := by rw [beq_eq_false_iff_ne]; omega
      have hbs := HBS.out
      rw [if_neg (by omega)] at hbs
      clear h
      go_wp2_with fail
      refine (C.out _).mono ?_
      rintro e W5 ⟨rfl, h5⟩
      have F5 := FG3.out.below h5
      obtain ⟨q0, q1, q2, r0, r1, r2⟩ := F5.three
      have HF5 := Lib.hid F5
      have H5 := Lib.hid h5
      clear F5 h5
      go_wp2_with fail
      go_meet
      rw [hbs]
      exact ⟨HF5.out.set (j := 2) (u := .string D), (FP3.out.below H5.out).other (by omega), (FR3.out.below H5.out).other (by omega), (HB3.out.trans (H5.out.mono hle4)).setCell (p := ⟨g, 2, none⟩) (show B ≤ g by omega) _⟩
  case rest =>
    obtain ⟨F5, P5, R5, hb5⟩ := hcut
    have HF5 := Lib.hid F5
    have HP5 := Lib.hid P5
    have HR5 := Lib.hid R5
    have HB5 := Lib.hid hb5
    clear F5 P5 R5 hb5 FP3 FR3 FG3 HB3 hle4 HDD
    obtain ⟨-, -, -, p3, -, -, -, p7⟩ := spec_cells HP5.out
    go_upto_region 11 with (fail)
    go_cut [6] (fun v wx => v = .bool (decide (c = 111) && a) ∧ wx = wc)
    case first =>
      by_cases hc : c = 111
      · subst hc
        clear HF5 HR5 HB5
        cases a with
        | false =>
          go_wp2_with fail
          go_meet
          exact ⟨rfl, rfl⟩
        | true =>
          go_wp2_with fail
          go_meet
          exact ⟨rfl, rfl⟩
      · have hv1 : ((c : Int) == 111) = false := by rw [beq_eq_false_iff_ne]; omega
        have HC := Lib.hid hc
        clear hc
        go_wp2_with fail
        go_meet
        exact ⟨by rw [decide_eq_false HC.out]; rfl, rfl⟩
    case rest =>
      obtain ⟨rfl, rfl⟩ := hcut
      obtain ⟨mk, hmk⟩ : ∃ mk, (decide (c = 111) && a) = mk := ⟨_, rfl⟩
      rw [hmk]
      have hm1 : D1 = if mk = true ∧ nz = true then (⟨#[48]⟩ : ByteArray) ++ D else D := by
        rw [HD1.out, ← hmk]
        by_cases hc : c = 111 <;> cases a <;> cases nz <;> simp [hc]
      have hm2 : D2 = if mk = false ∧ nz = false ∧ pr = 0 then ⟨#[]⟩ else D1 := by
        rw [HD2.out, ← hmk]
        by_cases hc : c = 111 <;> cases a <;> cases nz <;> simp [hc]
      have HM1 := Lib.hid hm1
      have HM2 := Lib.hid hm2
      clear hmk hm1 hm2 HD1 HD2 HBS
      have hgB : g < wc.heap.size := HF5.out.lt
      go_upto_region 12 with (fail)
      go_cut [49] (fun v wx => v = .bool (mk && nz) ∧ wx = wc)
      case first =>
        clear HF5 HP5 HR5 HB5 p3 p7
        cases mk with
        | false =>
          go_wp2_with fail
          go_meet
          exact ⟨rfl, rfl⟩
        | true =>
          go_wp2_with fail
          go_meet
          exact ⟨rfl, rfl⟩
      case rest =>
      obtain ⟨rfl, rfl⟩ := hcut
      go_upto_if 49 with (fail)
      go_cut [] (fun wx => Five wx g #[.string SG, .string BS, .string D1] 215 ∧ Five wx B #[.bool m, .bool p, .bool b, .bool a, .bool z, .int .i64 wd, .int .i64 pr, .int .u8 (c : Int)] 94 ∧ Five wx (B + 1) #[.string ⟨#[]⟩, .string ⟨#[]⟩, .string ⟨#[]⟩] 215 ∧ Below B w wx)
      case first =>
        have hm := HM1.out
        obtain ⟨q0, q1, q2, r0, r1, r2⟩ := HF5.out.three
        cases hmn : (mk && nz) with
        | false =>
          rw [if_neg (by intro e; rw [e.1, e.2] at hmn; cases hmn)] at hm
          go_wp2_with fail
          go_meet
          rw [hm]
          exact ⟨HF5.out, HP5.out, HR5.out, HB5.out⟩
        | true =>
          rw [if_pos (by rw [Bool.and_eq_true] at hmn; exact hmn)] at hm
          go_wp2_with fail
          go_meet
          rw [hm]
          exact ⟨HF5.out.set (j := 2) (u := .string (⟨#[48]⟩ ++ D)), HP5.out.other (by omega), HR5.out.other (by omega), HB5.out.setCell (p := ⟨g, 2, none⟩) (show B ≤ g by omega) _⟩
      case rest =>
      clear HF5 HP5 HR5 HB5 p3 p7 hgB
      obtain ⟨F5, P5, R5, hb5⟩ := hcut
      have hgB : g < wc.heap.size := F5.lt
      have HF5 := Lib.hid F5
      have HP5 := Lib.hid P5
      have HR5 := Lib.hid R5
      have HB5 := Lib.hid hb5
      clear F5 P5 R5 hb5
      obtain ⟨-, -, -, -, -, -, p6, -⟩ := spec_cells HP5.out
      go_upto_region 14 with (fail)
      go_cut [64] (fun v wx => v = .bool (!mk && !nz && (pr == 0)) ∧ wx = wc)
      case first =>
        clear HF5 HP5 HR5 HB5
        cases mk with
        | true =>
          go_wp2_with fail
          go_meet
          exact ⟨rfl, rfl⟩
        | false =>
          cases nz with
          | true =>
            go_wp2_with fail
            go_meet
            exact ⟨rfl, rfl⟩
          | false =>
            go_wp2_with fail
            go_meet
            exact ⟨rfl, rfl⟩
      case rest =>
      obtain ⟨rfl, rfl⟩ := hcut
      go_upto_if 64 with (fail)
      go_cut [] (fun wx => Five wx g #[.string SG, .string BS, .string D2] 215 ∧ Five wx B #[.bool m, .bool p, .bool b, .bool a, .bool z, .int .i64 wd, .int .i64 pr, .int .u8 (c : Int)] 94 ∧ Five wx (B + 1) #[.string ⟨#[]⟩, .string ⟨#[]⟩, .string ⟨#[]⟩] 215 ∧ Below B w wx)
      case first =>
        have hm := HM2.out
        obtain ⟨q0, q1, q2, r0, r1, r2⟩ := HF5.out.three
        cases hmn : (!mk && !nz && (pr == 0)) with
        | false =>
          rw [if_neg (by rintro ⟨e1, e2, e3⟩; rw [e1, e2, e3] at hmn; cases hmn)] at hm
          go_wp2_with fail
          go_meet
          rw [hm]
          exact ⟨HF5.out, HP5.out, HR5.out, HB5.out⟩
        | true =>
          rw [if_pos (by simpa [and_assoc] using hmn)] at hm
          go_wp2_with fail
          go_meet
          rw [hm]
          exact ⟨HF5.out.set (j := 2) (u := .string ⟨#[]⟩), HP5.out.other (by omega), HR5.out.other (by omega), HB5.out.setCell (p := ⟨g, 2, none⟩) (show B ≤ g by omega) _⟩
      case rest =>
      clear HF5 HP5 HR5 HB5 p6 hgB HM1 HM2
      obtain ⟨F5, P5, R5, hb5⟩ := hcut
      have hgB : g < wc.heap.size := F5.lt
      have hle : B ≤ wc.heap.size := by omega
      obtain ⟨-, -, -, -, -, -, p6, -⟩ := spec_cells P5
      obtain ⟨q0, q1, q2, r0, r1, r2⟩ := F5.three
      have HF5 := Lib.hid F5
      have HP5 := Lib.hid P5
      have HR5 := Lib.hid R5
      have HB5 := Lib.hid hb5
      have HCW := Lib.hid (fun (W : World) (h : Below wc.heap.size wc W) => (show W.cell? ⟨B, 6, none⟩ = some (.int .i64 pr) ∧ W.cell? ⟨g, 2, none⟩ = some (.string D2) ∧ W.frozen? ⟨g, 2, none⟩ = false from ⟨(HP5.out.below h).cell 6, (HF5.out.below h).cell 2, (HF5.out.below h).fro 2⟩))
      have hR := Below.refl wc.heap.size wc
      clear F5 P5 R5 hb5
      have hcat : ¬ 9223372036854775807 < Z.size + D2.size := by omega
      go_wp2_with fail
      go_region_with (first
        | (go_at_call 216; (with_reducible refine (CR.out _).mono ?_); rintro e W5 ⟨rfl, h5⟩; have b5 : Below wc.heap.size wc W5 := ⟨h5.os, h5.tape, h5.output, h5.size, h5.block⟩; obtain ⟨s6, s2, t2⟩ := HCW.out _ b5; clear h5))
      all_goals
        have F6 := (HF5.out.below b5).set (j := 2) (u := .string (Z ++ D2))
        have R6 := (HR5.out.below b5).other (g' := g) (j := 2) (u := .string (Z ++ D2)) (by omega)
        have hB6 := (HB5.out.trans (b5.mono hle)).setCell (p := ⟨g, 2, none⟩) (show B ≤ g by omega) (.string (Z ++ D2))
        clear s6 s2 t2 q0 q1 q2 r0 r1 r2 p6 HCW b5
        obtain ⟨W6, hW6⟩ : ∃ W6, W5.setCell ⟨g, 2, none⟩ (.string (Z ++ D2)) = W6 := ⟨_, rfl⟩
        rw [hW6] at F6 R6 hB6 ⊢
        clear hW6
        obtain ⟨q0, q1, q2, -, -, -⟩ := F6.three
        obtain ⟨u0, u1, u2, r0, r1, r2⟩ := R6.three
        have Z6 := ((R6.set (j := 0) (u := .string SG)).set (j := 1) (u := .string BS)).set (j := 2) (u := .string (Z ++ D2))
        have hB7 := ((hB6.setCell (p := ⟨B + 1, 0, none⟩) (by simp) (.string SG)).setCell (p := ⟨B + 1, 1, none⟩) (by simp) (.string BS)).setCell (p := ⟨B + 1, 2, none⟩) (by simp) (.string (Z ++ D2))
        have HZ6 := Lib.hid Z6
        have HB7 := Lib.hid hB7
        clear Z6 hB7 F6 R6 hB6 HF5 HP5 HR5 HB5
        go_wp2_with fail
        clear q0 q1 q2 u0 u1 u2 r0 r1 r2
        obtain ⟨q0, q1, q2, -, -, -⟩ := HZ6.out.three
        exact bodyPost_ret (v := .agg #[.string SG, .string BS, .string (Z ++ D2)]) (by simp [results, Tryz.results181, go_sem, q0, q1, q2]) rfl ⟨rfl, HB7.out⟩
end Go.Proofs.YtddfigbpckhfbaaGreatDoor

namespace Go.Proofs.YtddfigbpckhfbaaGreatDoor
open Go.RowKit Go.Lib

set_option maxRecDepth 100000 in
set_option maxHeartbeats 4000000 in
theorem number_no (m p b a z : Bool) (wd pr : Int) (c : Nat) (x : Nat) (w : World) (h : ¬ (chkB wd pr c = true ∧ vNum.contains c.toUInt8 = true)) :
    Calls Tryz.prog 135 #[.agg #[.bool m, .bool p, .bool b, .bool a, .bool z, .int .i64 wd, .int .i64 pr, .int .u8 (c : Int)], .float .f64 x] w fun e w' => e = .returned (.tuple #[.string ⟨#[]⟩, .int .i64 50]) ∧ Below w.heap.size w w' := by
  have cK := fun W => check_any m p b a z wd pr c W
  have cA := fun W => among_any ⟨#[100, 105, 111, 120, 88, 117, 101, 69, 102, 70, 103, 71]⟩ c W
  replace cA : ∀ w : World, Calls Tryz.prog 179 #[.string ⟨#[100, 105, 111, 120, 88, 117, 101, 69, 102, 70, 103, 71]⟩, .int .u8 (c : Int)] w fun e w' => e = .returned (.bool (vNum.contains c.toUInt8)) ∧ w = w' := cA
  have FP := Lib.hid (Five.new w #[.bool m, .bool p, .bool b, .bool a, .bool z, .int .i64 wd, .int .i64 pr, .int .u8 (c : Int)] 94)
  have HB0 := Lib.hid ((Below.refl w.heap.size w).alloc (Nat.le_refl _) (.cells #[.bool m, .bool p, .bool b, .bool a, .bool z, .int .i64 wd, .int .i64 pr, .int .u8 (c : Int)] 94))
  obtain ⟨W1, hW1⟩ : ∃ W1, w.alloc (.cells #[.bool m, .bool p, .bool b, .bool a, .bool z, .int .i64 wd, .int .i64 pr, .int .u8 (c : Int)] 94) = W1 := ⟨_, rfl⟩
  rw [hW1] at FP HB0
  have HW1 := Lib.hid hW1
  have hle : w.heap.size ≤ W1.heap.size := HB0.out.size
  obtain ⟨B, hB⟩ : ∃ B, w.heap.size = B := ⟨_, rfl⟩
  rw [hB] at FP HB0 hle ⊢
  obtain ⟨p0, p1, p2, p3, p4, p5, p6, p7⟩ := spec_cells FP.out
  have HB := Lib.hid hB
  by_cases hk : chkB wd pr c = true
  · rw [hk, if_pos rfl] at cK
    rw [show vNum.contains c.toUInt8 = false from by cases q : vNum.contains c.toUInt8 with | true => exact absurd ⟨hk, q⟩ h | false => rfl] at cA
    have CK := Lib.hid cK
    have CA := Lib.hid cA
    clear cK cA hW1 hB h hk
    go_enter Tryz.func135, Tryz.ntmps135
    go_wp2_with fail
    rw [HW1.out, HB.out]
    refine (CK.out _).mono ?_
    rintro e W2 ⟨rfl, h2⟩
    clear p0 p1 p2 p3 p4 p5 p6 p7
    obtain ⟨p0, p1, p2, p3, p4, p5, p6, p7⟩ := spec_cells (FP.out.below h2)
    have hBf := HB0.out.trans (h2.mono hle)
    clear h2
    go_wp2_with fail
    refine (CA.out _).mono ?_
    rintro e w' ⟨rfl, rfl⟩
    go_wp2_with fail
    go_ret2
    exact ⟨rfl, hBf⟩
  · rw [if_neg hk] at cK
    have CK := Lib.hid cK
    clear cK cA hW1 hB h hk
    go_enter Tryz.func135, Tryz.ntmps135
    go_wp2_with fail
    rw [HW1.out, HB.out]
    refine (CK.out _).mono ?_
    rintro e W2 ⟨rfl, h2⟩
    have hBf := HB0.out.trans (h2.mono hle)
    clear h2
    go_wp2_with fail
    go_ret2
    exact ⟨rfl, hBf⟩
theorem odd_len {x : Nat} {n : List UInt8} (h : oddL x = some n) : n.length = 4 := by
  unfold oddL at h
  split at h
  · cases h; rfl
  · split at h
    · cases h; rfl
    · split at h
      · cases h; rfl
      · cases h
set_option maxRecDepth 100000 in
set_option maxHeartbeats 4000000 in
theorem number_odd (m p b a z : Bool) (wd pr : Int) (c : Nat) (x : Nat) (n : List UInt8) (w : World) (hb : x < 18446744073709551616) (hk : chkB wd pr c = true) (hv : vNum.contains c.toUInt8 = true) (ho : oddL x = some n) :
    Calls Tryz.prog 135 #[.agg #[.bool m, .bool p, .bool b, .bool a, .bool z, .int .i64 wd, .int .i64 pr, .int .u8 (c : Int)], .float .f64 x] w fun e w' => e = .returned (.tuple #[.string ⟨(fillL n (wd - (n.length : Int)) m).toArray⟩, .int .i64 0]) ∧ Below w.heap.size w w' := by
  obtain ⟨d0, d1, _, _⟩ := chk_bd hk
  have hn4 := odd_len ho
  have cK := fun W => check_any m p b a z wd pr c W
  rw [hk, if_pos rfl] at cK
  have cA := fun W => among_any ⟨#[100, 105, 111, 120, 88, 117, 101, 69, 102, 70, 103, 71]⟩ c W
  replace cA : ∀ w : World, Calls Tryz.prog 179 #[.string ⟨#[100, 105, 111, 120, 88, 117, 101, 69, 102, 70, 103, 71]⟩, .int .u8 (c : Int)] w fun e w' => e = .returned (.bool (vNum.contains c.toUInt8)) ∧ w = w' := cA
  rw [hv] at cA
  have cO := fun W => boundless_any x W hb
  rw [ho] at cO
  replace cO : ∀ w : World, Calls Tryz.prog 133 #[.float .f64 x] w fun e w' => e = .returned (.tuple #[.string ⟨n.toArray⟩, .bool true]) ∧ w = w' := cO
  obtain ⟨N, hN⟩ : ∃ N : ByteArray, (⟨n.toArray⟩ : ByteArray) = N := ⟨_, rfl⟩
  have hNl : N.data.toList = n := by rw [← hN]
  have hNs : N.size = 4 := by rw [← ba_len, hNl, hn4]
  have cF := fun W => fill_any N (wd - (n.length : Int)) m W (by omega) (by omega) (by omega)
  rw [hNl] at cF
  obtain ⟨X, hX⟩ : ∃ X : ByteArray, (⟨(fillL n (wd - (n.length : Int)) m).toArray⟩ : ByteArray) = X := ⟨_, rfl⟩
  rw [hX] at cF ⊢
  rw [hN] at cO
  rw [hn4, show wd - ((4 : Nat) : Int) = wd - (N.size : Int) by omega] at cF
  have FP := Lib.hid (Five.new w #[.bool m, .bool p, .bool b, .bool a, .bool z, .int .i64 wd, .int .i64 pr, .int .u8 (c : Int)] 94)
  have HB0 := Lib.hid ((Below.refl w.heap.size w).alloc (Nat.le_refl _) (.cells #[.bool m, .bool p, .bool b, .bool a, .bool z, .int .i64 wd, .int .i64 pr, .int .u8 (c : Int)] 94))
  obtain ⟨W1, hW1⟩ : ∃ W1, w.alloc (.cells #[.bool m, .bool p, .bool b, .bool a, .bool z, .int .i64 wd, .int .i64 pr, .int .u8 (c : Int)] 94) = W1 := ⟨_, rfl⟩
  rw [hW1] at FP HB0
  have HW1 := Lib.hid hW1
  have hle : w.heap.size ≤ W1.heap.size := HB0.out.size
  obtain ⟨B, hB⟩ : ∃ B, w.heap.size = B := ⟨_, rfl⟩
  rw [hB] at FP HB0 hle ⊢
  obtain ⟨p0, p1, p2, p3, p4, p5, p6, p7⟩ := spec_cells FP.out
  have HB := Lib.hid hB
  have CK := Lib.hid cK
  have CA := Lib.hid cA
  have CO := Lib.hid cO
  have CF := Lib.hid cF
  have hNs2 : N.size ≤ 10 := by omega
  clear cK cA cO cF hW1 hB hk hv ho hb hN hNl hX hn4 hNs
  go_enter Tryz.func135, Tryz.ntmps135
  go_wp2_with fail
  rw [HW1.out, HB.out]
  refine (CK.out _).mono ?_
  rintro e W2 ⟨rfl, h2⟩
  clear p0 p1 p2 p3 p4 p5 p6 p7
  obtain ⟨p0, p1, p2, p3, p4, p5, p6, p7⟩ := spec_cells (FP.out.below h2)
  have HB2 := Lib.hid (HB0.out.trans (h2.mono hle))
  have hle2 : B ≤ W2.heap.size := Nat.le_trans hle h2.size
  clear h2
  go_wp2_with fail
  refine (CA.out _).mono ?_
  rintro e w' ⟨rfl, rfl⟩
  go_wp2_with fail
  refine (CO.out _).mono ?_
  rintro e w' ⟨rfl, rfl⟩
  go_wp2_with fail
  refine (CF.out _).mono ?_
  rintro e W3 ⟨rfl, h3⟩
  have hBf := HB2.out.trans (h3.mono hle2)
  clear h3
  go_wp2_with fail
  go_ret2
  exact ⟨rfl, hBf⟩
end Go.Proofs.YtddfigbpckhfbaaGreatDoor

namespace Go.Proofs.YtddfigbpckhfbaaGreatDoor
open Go.RowKit Go.Lib

theorem ba_mk_app (l k : List UInt8) : (⟨l.toArray⟩ : ByteArray) ++ ⟨k.toArray⟩ = ⟨(l ++ k).toArray⟩ := by
  apply ByteArray.ext
  apply Array.toList_inj.1
  rw [ByteArray.data_append, Array.toList_append]
theorem ba_mk_size (l : List UInt8) : (⟨l.toArray⟩ : ByteArray).size = l.length := by
  rw [← ba_len]
theorem whole_verbs {c : Nat} (_hc : c < 256) (_hv : vWhole.contains c.toUInt8 = true) : c = 111 ∨ (c = 120 ∨ c = 88) ∨ (c ≠ 111 ∧ c ≠ 120 ∧ c ≠ 88) := by omega
theorem whole_any (m p b a z : Bool) (wd pr : Int) (c x : Nat) (w : World) (hb : x < 18446744073709551616) (h : mag x < 9218868437227405312) (h0 : -1 ≤ pr) (h1 : pr ≤ 190) (hc : c < 256) (hv : vWhole.contains c.toUInt8 = true) :
    Calls Tryz.prog 181 #[.agg #[.bool m, .bool p, .bool b, .bool a, .bool z, .int .i64 wd, .int .i64 pr, .int .u8 (c : Int)], .float .f64 (sgn x + truncR (mag x))] w fun e w' => e = .returned (.agg #[.string ⟨(signL p b c (lowB x)).toArray⟩, .string ⟨(whB (truncR (mag x)) c a).toArray⟩, .string ⟨(whD (truncR (mag x)) pr a c).toArray⟩]) ∧ Below w.heap.size w w' := by
  have ht := truncR_fin h
  have hm : mag (sgn x + truncR (mag x)) = truncR (mag x) := sgn_add_mag (by omega)
  have hb2 : sgn x + truncR (mag x) < 18446744073709551616 := by unfold sgn; omega
  have hlo := low_is hb h
  have hnz := nzero_is (x := sgn x + truncR (mag x)) (by rw [hm]; exact ht)
  have hez := zero_is (x := sgn x + truncR (mag x)) (by rw [hm]; exact ht)
  rw [hm] at hnz hez
  have C3 := fun W => inBase_any (sgn x + truncR (mag x)) 3 W hb2 (by rw [hm]; exact ht) (Or.inl rfl)
  have C4 := fun W => inBase_any (sgn x + truncR (mag x)) 4 W hb2 (by rw [hm]; exact ht) (Or.inr rfl)
  have CX := fun W => fixed_yes (sgn x + truncR (mag x)) 0 W hb2 (by rw [hm]; exact ht) (by omega)
  rw [hm] at C3 C4 CX
  have CS := fun W => sign_any m p b a z wd pr c (lowB x) W
  clear hm
  obtain ⟨r, hr⟩ : ∃ r, truncR (mag x) = r := ⟨_, rfl⟩
  obtain ⟨X, hX⟩ : ∃ X, sgn x + truncR (mag x) = X := ⟨_, rfl⟩
  rw [hX] at hlo hnz hez C3 C4 CX hb2 ⊢
  rw [hr] at hnz hez C3 C4 CX ht ⊢
  clear hX hr
  have l2 := whD2_len ht pr a c
  have l0 := whD0_len ht c
  have k := whole_core m p b a z wd pr c X (lowB x) (decide (r ≠ 0)) ⟨(signL p b c (lowB x)).toArray⟩ ⟨(whD0 r c).toArray⟩ ⟨(whB r c a).toArray⟩ ⟨(whD1 r a c).toArray⟩ ⟨(whD2 r pr a c).toArray⟩ w h0 h1 hlo hnz (by rw [hez]; by_cases q : r = 0 <;> simp [q]) CS
    (by
      rcases whole_verbs hc hv with e | e | e
      · refine Or.inl ⟨e, fun W => ?_⟩
        have e2 : whD0 r c = ibT (manF r) (expF r) 3 := by unfold whD0; rw [if_pos e]
        rw [e2]; exact C3 W
      · refine Or.inr (Or.inl ⟨e, fun W => ?_⟩)
        have e2 : whD0 r c = ibT (manF r) (expF r) 4 := by unfold whD0; rw [if_neg (by omega), if_pos e]
        rw [e2]; exact C4 W
      · refine Or.inr (Or.inr ⟨e, fun W => ?_⟩)
        have e2 : whD0 r c = fixT (decs (rnd (amN r * 10 ^ 0) (amD r))) 0 := by unfold whD0; rw [if_neg e.1, if_neg (by omega)]
        rw [e2]; exact CX W)
    (by unfold whB; by_cases q : r = 0 <;> simp [q] <;> split <;> simp_all)
    (by
      unfold whD1
      by_cases q : c = 111 ∧ a = true ∧ r ≠ 0
      · rw [if_pos q, if_pos ⟨q.1, q.2.1, by rw [decide_eq_true q.2.2]⟩]
        exact (ba_mk_app [48] (whD0 r c)).symm
      · rw [if_neg q, if_neg (fun k => q ⟨k.1, k.2.1, of_decide_eq_true k.2.2⟩)])
    (by
      unfold whD2
      by_cases q : ¬ (c = 111 ∧ a = true) ∧ r = 0 ∧ pr = 0
      · rw [if_pos q, if_pos ⟨q.1, by rw [decide_eq_false (by simpa using q.2.1)], q.2.2⟩]
      · rw [if_neg q, if_neg (fun k => q ⟨k.1, by have := of_decide_eq_false k.2.1; omega, k.2.2⟩)])
    (by rw [ba_mk_size]; omega) (by rw [ba_mk_size]; omega)
  refine k.mono ?_
  rintro e w' ⟨rfl, hB⟩
  refine ⟨?_, hB⟩
  rw [ba_mk_size, ba_mk_app]
  rfl
end Go.Proofs.YtddfigbpckhfbaaGreatDoor

namespace Go.Proofs.YtddfigbpckhfbaaGreatDoor
open Go.RowKit Go.Lib

set_option maxRecDepth 100000 in
set_option maxHeartbeats 8000000 in
theorem number_whole_true (m p b a : Bool) (wd pr : Int) (c : Nat) (x : Nat) (w : World) (hc : c < 256) (hb : x < 18446744073709551616) (h : mag x < 9218868437227405312) (hk : chkB wd pr c = true) (hv : vNum.contains c.toUInt8 = true) (hw : vWhole.contains c.toUInt8 = true) :
    Calls Tryz.prog 135 #[.agg #[.bool m, .bool p, .bool b, .bool a, .bool true, .int .i64 wd, .int .i64 pr, .int .u8 (c : Int)], .float .f64 x] w fun e w' => e = .returned (.tuple #[.string ⟨(wholeL m p b a true wd pr c x).toArray⟩, .int .i64 0]) ∧ Below w.heap.size w w' := by
  obtain ⟨d0, d1, d2, d3⟩ := chk_bd hk
  have cK := fun W => check_any m p b a true wd pr c W
  rw [hk, if_pos rfl] at cK
  have cA := fun W => among_any ⟨#[100, 105, 111, 120, 88, 117, 101, 69, 102, 70, 103, 71]⟩ c W
  replace cA : ∀ w : World, Calls Tryz.prog 179 #[.string ⟨#[100, 105, 111, 120, 88, 117, 101, 69, 102, 70, 103, 71]⟩, .int .u8 (c : Int)] w fun e w' => e = .returned (.bool (vNum.contains c.toUInt8)) ∧ w = w' := cA
  rw [hv] at cA
  have cW := fun W => among_any ⟨#[100, 105, 111, 120, 88, 117]⟩ c W
  replace cW : ∀ w : World, Calls Tryz.prog 179 #[.string ⟨#[100, 105, 111, 120, 88, 117]⟩, .int .u8 (c : Int)] w fun e w' => e = .returned (.bool (vWhole.contains c.toUInt8)) ∧ w = w' := cW
  rw [hw] at cW
  have cO := fun W => boundless_any x W hb
  rw [odd_none h] at cO
  replace cO : ∀ w : World, Calls Tryz.prog 133 #[.float .f64 x] w fun e w' => e = .returned (.tuple #[.string ⟨#[]⟩, .bool false]) ∧ w = w' := cO
  have cT := fun W => numTrunc_fin x W hb h
  have cP := fun W => whole_any m p b a true wd pr c x W hb h d2 d3 hc hw
  have ht := truncR_fin h
  have l2 := whD_len ht d3 a c
  have l3 := whB_len (truncR (mag x)) c a
  have a2 := whD_asc (r := truncR (mag x)) pr a c
  have a3 := whB_asc (truncR (mag x)) c a
  obtain ⟨X, hX⟩ : ∃ X : ByteArray, (⟨(wholeL m p b a true wd pr c x).toArray⟩ : ByteArray) = X := ⟨_, rfl⟩
  have hX2 := hX
  unfold wholeL at hX2
  obtain ⟨DL, hDL⟩ : ∃ l, whD (truncR (mag x)) pr a c = l := ⟨_, rfl⟩
  obtain ⟨BL, hBL⟩ : ∃ l, whB (truncR (mag x)) c a = l := ⟨_, rfl⟩
  rw [hDL] at cP l2 a2 hX2
  rw [hBL] at cP l3 a3 hX2
  obtain ⟨Y, hY⟩ : ∃ Y, sgn x + truncR (mag x) = Y := ⟨_, rfl⟩
  rw [hY] at cP cT
  obtain ⟨SG, hSG⟩ : ∃ SG : ByteArray, (⟨(signL p b c (lowB x)).toArray⟩ : ByteArray) = SG := ⟨_, rfl⟩
  obtain ⟨D, hD⟩ : ∃ D : ByteArray, (⟨DL.toArray⟩ : ByteArray) = D := ⟨_, rfl⟩
  obtain ⟨BS, hBS⟩ : ∃ D : ByteArray, (⟨BL.toArray⟩ : ByteArray) = D := ⟨_, rfl⟩
  have hSl : SG.data.toList = signL p b c (lowB x) := by rw [← hSG]
  have hDl : D.data.toList = DL := by rw [← hD]
  have hBl : BS.data.toList = BL := by rw [← hBS]
  have s1 : SG.size ≤ 10 := by rw [← ba_len, hSl]; exact Nat.le_trans (sgn_len _ _ _ _) (by omega)
  have s2 : BS.size ≤ 10 := by rw [← ba_len, hBl]; omega
  have s3 : D.size ≤ 20000 := by rw [← ba_len, hDl]; omega
  rw [hSG, hD, hBS] at cP
  have cQ := fun W => padded_core m p b a true wd pr c (true && decide (pr < 0)) SG BS D ⟨(capL c BL).toArray⟩ ⟨(capL c DL).toArray⟩ X W (by omega) (by omega) s1 s2 s3 (by rw [hBl]; exact a3) (by rw [hDl]; exact a2) (by
    unfold capL
    split
    · exact ⟨by rw [hBl], by rw [hDl]⟩
    · exact ⟨hBS, hD⟩) (by rw [← hX2, hSl])
  unfold PadEnd at cQ
  rw [Bool.true_and] at cQ
  rw [hX]
  have CK := Lib.hid cK
  have CA := Lib.hid cA
  have CW := Lib.hid cW
  have CO := Lib.hid cO
  have CT := Lib.hid cT
  have CP := Lib.hid cP
  have CQ := Lib.hid cQ
  have FP := Lib.hid (Five.new w #[.bool m, .bool p, .bool b, .bool a, .bool true, .int .i64 wd, .int .i64 pr, .int .u8 (c : Int)] 94)
  have HB0 := Lib.hid ((Below.refl w.heap.size w).alloc (Nat.le_refl _) (.cells #[.bool m, .bool p, .bool b, .bool a, .bool true, .int .i64 wd, .int .i64 pr, .int .u8 (c : Int)] 94))
  obtain ⟨W1, hW1⟩ : ∃ W1, w.alloc (.cells #[.bool m, .bool p, .bool b, .bool a, .bool true, .int .i64 wd, .int .i64 pr, .int .u8 (c : Int)] 94) = W1 := ⟨_, rfl⟩
  rw [hW1] at FP HB0
  have HW1 := Lib.hid hW1
  clear cK cA cW cO cT cP cQ hW1 hX hX2 hSG hD hSl hDl hBS hBl hDL hBL hY s1 s2 s3 hk hv hw h hb d0 d1 d2 d3 l2 l3 a2 a3 ht hc
  have hle : w.heap.size ≤ W1.heap.size := HB0.out.size
  obtain ⟨B, hB⟩ : ∃ B, w.heap.size = B := ⟨_, rfl⟩
  rw [hB] at FP HB0 hle ⊢
  obtain ⟨p0, p1, p2, p3, p4, p5, p6, p7⟩ := spec_cells FP.out
  have HB := Lib.hid hB
  clear hB
  go_enter Tryz.func135, Tryz.ntmps135
  go_wp2_with fail
  rw [HW1.out, HB.out]
  refine (CK.out _).mono ?_
  rintro e W2 ⟨rfl, h2⟩
  clear p0 p1 p2 p3 p4 p5 p6 p7
  obtain ⟨p0, p1, p2, p3, p4, p5, p6, p7⟩ := spec_cells (FP.out.below h2)
  have FP2 := Lib.hid (FP.out.below h2)
  have HB2 := Lib.hid (HB0.out.trans (h2.mono hle))
  have hle2 : B ≤ W2.heap.size := Nat.le_trans hle h2.size
  clear h2
  go_wp2_with fail
  refine (CA.out _).mono ?_
  rintro e w' ⟨rfl, rfl⟩
  go_wp2_with fail
  refine (CO.out _).mono ?_
  rintro e w' ⟨rfl, rfl⟩
  go_wp2_with fail
  refine (CW.out _).mono ?_
  rintro e w' ⟨rfl, rfl⟩
  go_wp2_with fail
  have HCW := Lib.hid (fun (W : World) (h : Below W2.heap.size W2 W) => spec_cells (FP2.out.below h))
  have hR := Below.refl W2.heap.size W2
  go_region_held3 (fun w' => w'.cell? ⟨B, 0, none⟩ = some (.bool m) ∧ w'.cell? ⟨B, 1, none⟩ = some (.bool p) ∧ w'.cell? ⟨B, 2, none⟩ = some (.bool b) ∧ w'.cell? ⟨B, 3, none⟩ = some (.bool a) ∧ w'.cell? ⟨B, 4, none⟩ = some (.bool true) ∧ w'.cell? ⟨B, 5, none⟩ = some (.int .i64 wd) ∧ w'.cell? ⟨B, 6, none⟩ = some (.int .i64 pr) ∧ w'.cell? ⟨B, 7, none⟩ = some (.int .u8 (c : Int)))
      (first | (with_reducible exact S2) | (with_reducible exact S1) | go_keep)
      (first
      | (go_at_call 16; (with_reducible refine (CT.out _).mono ?_); rintro e W3 ⟨rfl, rfl⟩)
      | (go_at_call 181; (with_reducible refine (CP.out _).mono ?_); rintro e W3 ⟨rfl, h3⟩; have b3 : Below W2.heap.size W2 W3 := ⟨h3.os, h3.tape, h3.output, h3.size, h3.block⟩; have S1 := HCW.out _ b3; clear h3)
      | (go_at_call 182; (with_reducible refine (CQ.out _).mono ?_); rintro e W4 ⟨rfl, h4⟩; have b4 : Below W2.heap.size W2 W4 := b3.trans ((⟨h4.os, h4.tape, h4.output, h4.size, h4.block⟩ : Below W3.heap.size W3 W4).mono b3.size); have S2 := HCW.out _ b4; clear h4))
  all_goals
    have hBf := HB2.out.trans (b4.mono hle2)
    go_wp2_with fail
    go_ret2
    exact ⟨rfl, by first | exact hBf | exact ⟨hBf.os, hBf.tape, hBf.output, hBf.size, hBf.block⟩⟩

set_option maxRecDepth 100000 in
set_option maxHeartbeats 8000000 in
theorem number_whole_false (m p b a : Bool) (wd pr : Int) (c : Nat) (x : Nat) (w : World) (hc : c < 256) (hb : x < 18446744073709551616) (h : mag x < 9218868437227405312) (hk : chkB wd pr c = true) (hv : vNum.contains c.toUInt8 = true) (hw : vWhole.contains c.toUInt8 = true) :
    Calls Tryz.prog 135 #[.agg #[.bool m, .bool p, .bool b, .bool a, .bool false, .int .i64 wd, .int .i64 pr, .int .u8 (c : Int)], .float .f64 x] w fun e w' => e = .returned (.tuple #[.string ⟨(wholeL m p b a false wd pr c x).toArray⟩, .int .i64 0]) ∧ Below w.heap.size w w' := by
  obtain ⟨d0, d1, d2, d3⟩ := chk_bd hk
  have cK := fun W => check_any m p b a false wd pr c W
  rw [hk, if_pos rfl] at cK
  have cA := fun W => among_any ⟨#[100, 105, 111, 120, 88, 117, 101, 69, 102, 70, 103, 71]⟩ c W
  replace cA : ∀ w : World, Calls Tryz.prog 179 #[.string ⟨#[100, 105, 111, 120, 88, 117, 101, 69, 102, 70, 103, 71]⟩, .int .u8 (c : Int)] w fun e w' => e = .returned (.bool (vNum.contains c.toUInt8)) ∧ w = w' := cA
  rw [hv] at cA
  have cW := fun W => among_any ⟨#[100, 105, 111, 120, 88, 117]⟩ c W
  replace cW : ∀ w : World, Calls Tryz.prog 179 #[.string ⟨#[100, 105, 111, 120, 88, 117]⟩, .int .u8 (c : Int)] w fun e w' => e = .returned (.bool (vWhole.contains c.toUInt8)) ∧ w = w' := cW
  rw [hw] at cW
  have cO := fun W => boundless_any x W hb
  rw [odd_none h] at cO
  replace cO : ∀ w : World, Calls Tryz.prog 133 #[.float .f64 x] w fun e w' => e = .returned (.tuple #[.string ⟨#[]⟩, .bool false]) ∧ w = w' := cO
  have cT := fun W => numTrunc_fin x W hb h
  have cP := fun W => whole_any m p b a false wd pr c x W hb h d2 d3 hc hw
  have ht := truncR_fin h
  have l2 := whD_len ht d3 a c
  have l3 := whB_len (truncR (mag x)) c a
  have a2 := whD_asc (r := truncR (mag x)) pr a c
  have a3 := whB_asc (truncR (mag x)) c a
  obtain ⟨X, hX⟩ : ∃ X : ByteArray, (⟨(wholeL m p b a false wd pr c x).toArray⟩ : ByteArray) = X := ⟨_, rfl⟩
  have hX2 := hX
  unfold wholeL at hX2
  obtain ⟨DL, hDL⟩ : ∃ l, whD (truncR (mag x)) pr a c = l := ⟨_, rfl⟩
  obtain ⟨BL, hBL⟩ : ∃ l, whB (truncR (mag x)) c a = l := ⟨_, rfl⟩
  rw [hDL] at cP l2 a2 hX2
  rw [hBL] at cP l3 a3 hX2
  obtain ⟨Y, hY⟩ : ∃ Y, sgn x + truncR (mag x) = Y := ⟨_, rfl⟩
  rw [hY] at cP cT
  obtain ⟨SG, hSG⟩ : ∃ SG : ByteArray, (⟨(signL p b c (lowB x)).toArray⟩ : ByteArray) = SG := ⟨_, rfl⟩
  obtain ⟨D, hD⟩ : ∃ D : ByteArray, (⟨DL.toArray⟩ : ByteArray) = D := ⟨_, rfl⟩
  obtain ⟨BS, hBS⟩ : ∃ D : ByteArray, (⟨BL.toArray⟩ : ByteArray) = D := ⟨_, rfl⟩
  have hSl : SG.data.toList = signL p b c (lowB x) := by rw [← hSG]
  have hDl : D.data.toList = DL := by rw [← hD]
  have hBl : BS.data.toList = BL := by rw [← hBS]
  have s1 : SG.size ≤ 10 := by rw [← ba_len, hSl]; exact Nat.le_trans (sgn_len _ _ _ _) (by omega)
  have s2 : BS.size ≤ 10 := by rw [← ba_len, hBl]; omega
  have s3 : D.size ≤ 20000 := by rw [← ba_len, hDl]; omega
  rw [hSG, hD, hBS] at cP
  have cQ := fun W => padded_core m p b a false wd pr c (false && decide (pr < 0)) SG BS D ⟨(capL c BL).toArray⟩ ⟨(capL c DL).toArray⟩ X W (by omega) (by omega) s1 s2 s3 (by rw [hBl]; exact a3) (by rw [hDl]; exact a2) (by
    unfold capL
    split
    · exact ⟨by rw [hBl], by rw [hDl]⟩
    · exact ⟨hBS, hD⟩) (by rw [← hX2, hSl])
  unfold PadEnd at cQ
  rw [Bool.false_and] at cQ
  rw [hX]
  have CK := Lib.hid cK
  have CA := Lib.hid cA
  have CW := Lib.hid cW
  have CO := Lib.hid cO
  have CT := Lib.hid cT
  have CP := Lib.hid cP
  have CQ := Lib.hid cQ
  have FP := Lib.hid (Five.new w #[.bool m, .bool p, .bool b, .bool a, .bool false, .int .i64 wd, .int .i64 pr, .int .u8 (c : Int)] 94)
  have HB0 := Lib.hid ((Below.refl w.heap.size w).alloc (Nat.le_refl _) (.cells #[.bool m, .bool p, .bool b, .bool a, .bool false, .int .i64 wd, .int .i64 pr, .int .u8 (c : Int)] 94))
  obtain ⟨W1, hW1⟩ : ∃ W1, w.alloc (.cells #[.bool m, .bool p, .bool b, .bool a, .bool false, .int .i64 wd, .int .i64 pr, .int .u8 (c : Int)] 94) = W1 := ⟨_, rfl⟩
  rw [hW1] at FP HB0
  have HW1 := Lib.hid hW1
  clear cK cA cW cO cT cP cQ hW1 hX hX2 hSG hD hSl hDl hBS hBl hDL hBL hY s1 s2 s3 hk hv hw h hb d0 d1 d2 d3 l2 l3 a2 a3 ht hc
  have hle : w.heap.size ≤ W1.heap.size := HB0.out.size
  obtain ⟨B, hB⟩ : ∃ B, w.heap.size = B := ⟨_, rfl⟩
  rw [hB] at FP HB0 hle ⊢
  obtain ⟨p0, p1, p2, p3, p4, p5, p6, p7⟩ := spec_cells FP.out
  have HB := Lib.hid hB
  clear hB
  go_enter Tryz.func135, Tryz.ntmps135
  go_wp2_with fail
  rw [HW1.out, HB.out]
  refine (CK.out _).mono ?_
  rintro e W2 ⟨rfl, h2⟩
  clear p0 p1 p2 p3 p4 p5 p6 p7
  obtain ⟨p0, p1, p2, p3, p4, p5, p6, p7⟩ := spec_cells (FP.out.below h2)
  have FP2 := Lib.hid (FP.out.below h2)
  have HB2 := Lib.hid (HB0.out.trans (h2.mono hle))
  have hle2 : B ≤ W2.heap.size := Nat.le_trans hle h2.size
  clear h2
  go_wp2_with fail
  refine (CA.out _).mono ?_
  rintro e w' ⟨rfl, rfl⟩
  go_wp2_with fail
  refine (CO.out _).mono ?_
  rintro e w' ⟨rfl, rfl⟩
  go_wp2_with fail
  refine (CW.out _).mono ?_
  rintro e w' ⟨rfl, rfl⟩
  go_wp2_with fail
  have HCW := Lib.hid (fun (W : World) (h : Below W2.heap.size W2 W) => spec_cells (FP2.out.below h))
  have hR := Below.refl W2.heap.size W2
  refine wp_region_noPanic ?_
  refine wp_region_held_drew (S := (fun w' => w'.cell? ⟨B, 0, none⟩ = some (.bool m) ∧ w'.cell? ⟨B, 1, none⟩ = some (.bool p) ∧ w'.cell? ⟨B, 2, none⟩ = some (.bool b) ∧ w'.cell? ⟨B, 3, none⟩ = some (.bool a) ∧ w'.cell? ⟨B, 4, none⟩ = some (.bool false) ∧ w'.cell? ⟨B, 5, none⟩ = some (.int .i64 wd) ∧ w'.cell? ⟨B, 6, none⟩ = some (.int .i64 pr) ∧ w'.cell? ⟨B, 7, none⟩ = some (.int .u8 (c : Int)))) (by kernel_rfl) (⟨p0, p1, p2, p3, p4, p5, p6, p7⟩) (fun hHeld => ?_)
  refine wpAnyH_take (i := 0) (oi := ({ dst := some 35, op := Op.load 94 (Operand.tmp 2), type := 94, pos := "format.go:69", after := #[], guard := none } : Oper)) (v := ?_) rfl (by kernel_rfl) (by kernel_rfl) (by kernel_rfl) (fun _ _ _ h => h) (Or.inl ⟨by rfl, ?_⟩) (by assumption) ?_
  rotate_left
  · intro w' hSw
    try dsimp only at hSw
    go_simp
    try with_reducible rfl
  try simp only [Act.put, List.setIfInBounds_toArray, List.set_cons_zero, List.set_cons_succ]
  refine wpAnyH_take (i := 1) (oi := ({ dst := some 36, op := Op.move (Operand.tmp 1), type := 24, pos := "format.go:69", after := #[], guard := none } : Oper)) (v := ?_) rfl (by kernel_rfl) (by kernel_rfl) (by kernel_rfl) (fun _ _ _ h => h) (Or.inl ⟨by rfl, ?_⟩) (by assumption) ?_
  rotate_left
  · intro w' hSw
    try dsimp only at hSw
    go_simp
    try with_reducible rfl
  try simp only [Act.put, List.setIfInBounds_toArray, List.set_cons_zero, List.set_cons_succ]
  refine wpAnyH_take (i := 4) (oi := ({ dst := some 39, op := Op.load 94 (Operand.tmp 2), type := 94, pos := "format.go:69", after := #[], guard := none } : Oper)) (v := ?_) rfl (by kernel_rfl) (by kernel_rfl) (by kernel_rfl) (fun _ _ _ h => h) (Or.inl ⟨by rfl, ?_⟩) (by assumption) ?_
  rotate_left
  · intro w' hSw
    try dsimp only at hSw
    go_simp
    try with_reducible rfl
  try simp only [Act.put, List.setIfInBounds_toArray, List.set_cons_zero, List.set_cons_succ]
  refine wpAnyH_take (i := 5) (oi := ({ dst := some 40, op := Op.fieldAddr 94 (Operand.tmp 2) 4, type := 0, pos := "format.go:69", after := #[], guard := none } : Oper)) (v := ?_) rfl (by kernel_rfl) (by kernel_rfl) (by kernel_rfl) (fun _ _ _ h => h) (Or.inl ⟨by rfl, ?_⟩) (by assumption) ?_
  rotate_left
  · intro w' hSw
    try dsimp only at hSw
    go_simp
    try with_reducible rfl
  try simp only [Act.put, List.setIfInBounds_toArray, List.set_cons_zero, List.set_cons_succ]
  refine wpAnyH_take (i := 6) (oi := ({ dst := some 41, op := Op.load 4 (Operand.tmp 40), type := 4, pos := "format.go:69", after := #[{ on := 5, ground := Ground.data }], guard := none } : Oper)) (v := ?_) rfl (by kernel_rfl) (by kernel_rfl) (by kernel_rfl) (fun _ _ _ h => h) (Or.inl ⟨by rfl, ?_⟩) (by assumption) ?_
  rotate_left
  · intro w' hSw
    try dsimp only at hSw
    go_simp
    try with_reducible rfl
  try simp only [Act.put, List.setIfInBounds_toArray, List.set_cons_zero, List.set_cons_succ]
  refine wpAnyH_ready (rs := [2]) (by kernel_rfl) (by simp) ?_
  refine AllReadyH.cons (o := ({ dst := some 37, op := Op.call { callee := Callee.value (Operand.func 16), args := #[Operand.tmp 36], argTypes := #[24] }, type := 24, pos := "format.go:69", after := #[{ on := 1, ground := Ground.data }], guard := none } : Oper)) rfl (fun K hK => ?_) AllReadyH.nil
  go_simp
  refine (CT.out _).mono ?_
  rintro e W3 ⟨rfl, rfl⟩
  go_wp2_with fail
  refine hK.out _ _ (hHeld) (fun hHeld => ?_)
  clear hK K
  try simp only [Act.put, List.setIfInBounds_toArray, List.set_cons_zero, List.set_cons_succ]
  refine wpAnyH_ready (rs := [3]) (by kernel_rfl) (by simp) ?_
  refine AllReadyH.cons (o := ({ dst := some 38, op := Op.call { callee := Callee.value (Operand.func 181), args := #[Operand.tmp 35, Operand.tmp 37], argTypes := #[94, 24] }, type := 215, pos := "format.go:69", after := #[{ on := 0, ground := Ground.data }, { on := 2, ground := Ground.data }, { on := 2, ground := Ground.chain }], guard := none } : Oper)) rfl (fun K hK => ?_) AllReadyH.nil
  go_simp
  refine (CP.out _).mono ?_
  rintro e W3 ⟨rfl, h3⟩
  have b3 : Below W2.heap.size W2 W3 := ⟨h3.os, h3.tape, h3.output, h3.size, h3.block⟩
  have S1 := HCW.out _ b3
  clear h3
  go_wp2_with fail
  refine hK.out _ _ (S1) (fun hHeld => ?_)
  clear hK K
  try simp only [Act.put, List.setIfInBounds_toArray, List.set_cons_zero, List.set_cons_succ]
  refine wpAnyH_take (i := 7) (oi := ({ dst := some 42, op := Op.move (Operand.tmp 41), type := 4, pos := "format.go:69", after := #[{ on := 6, ground := Ground.data }, { on := 3, ground := Ground.chain }], guard := none } : Oper)) (v := ?_) rfl (by kernel_rfl) (by kernel_rfl) (by kernel_rfl) (fun _ _ _ h => h) (Or.inl ⟨by rfl, ?_⟩) (by assumption) ?_
  rotate_left
  · intro w' hSw
    try dsimp only at hSw
    go_simp
    try with_reducible rfl
  try simp only [Act.put, List.setIfInBounds_toArray, List.set_cons_zero, List.set_cons_succ]
  refine wpAnyH_take (i := 8) (oi := ({ dst := some 43, op := Op.fieldAddr 94 (Operand.tmp 2) 6, type := 0, pos := "format.go:69", after := #[{ on := 7, ground := Ground.guard }], guard := some (7, true) } : Oper)) (v := undef) rfl (by kernel_rfl) (by kernel_rfl) (by kernel_rfl) (fun _ _ _ h => h) (Or.inr ⟨by rfl, rfl⟩) (by assumption) ?_
  try simp only [Act.put, List.setIfInBounds_toArray, List.set_cons_zero, List.set_cons_succ]
  refine wpAnyH_take (i := 9) (oi := ({ dst := some 44, op := Op.load 3 (Operand.tmp 43), type := 3, pos := "format.go:69", after := #[{ on := 8, ground := Ground.data }, { on := 7, ground := Ground.guard }], guard := some (7, true) } : Oper)) (v := undef) rfl (by kernel_rfl) (by kernel_rfl) (by kernel_rfl) (fun _ _ _ h => h) (Or.inr ⟨by rfl, rfl⟩) (by assumption) ?_
  try simp only [Act.put, List.setIfInBounds_toArray, List.set_cons_zero, List.set_cons_succ]
  refine wpAnyH_take (i := 10) (oi := ({ dst := some 45, op := Op.binOp BinOp.lss 3 (Operand.tmp 44) (Operand.const (Value.int IntKind.i64 0)) 3, type := 4, pos := "format.go:69", after := #[{ on := 9, ground := Ground.data }, { on := 7, ground := Ground.guard }], guard := some (7, true) } : Oper)) (v := undef) rfl (by kernel_rfl) (by kernel_rfl) (by kernel_rfl) (fun _ _ _ h => h) (Or.inr ⟨by rfl, rfl⟩) (by assumption) ?_
  try simp only [Act.put, List.setIfInBounds_toArray, List.set_cons_zero, List.set_cons_succ]
  refine wpAnyH_take (i := 11) (oi := ({ dst := some 46, op := Op.pick (Operand.tmp 42) (Operand.tmp 45) (Operand.const (Value.bool false)), type := 4, pos := "format.go:69", after := #[{ on := 7, ground := Ground.data }, { on := 10, ground := Ground.data }], guard := none } : Oper)) (v := ?_) rfl (by kernel_rfl) (by kernel_rfl) (by kernel_rfl) (fun _ _ _ h => h) (Or.inl ⟨by rfl, ?_⟩) (by assumption) ?_
  rotate_left
  · intro w' hSw
    try dsimp only at hSw
    go_simp
    try with_reducible rfl
  try simp only [Act.put, List.setIfInBounds_toArray, List.set_cons_zero, List.set_cons_succ]
  refine wpAnyH_ready (rs := [12]) (by kernel_rfl) (by simp) ?_
  refine AllReadyH.cons (o := ({ dst := some 47, op := Op.call { callee := Callee.value (Operand.func 182), args := #[Operand.tmp 38, Operand.tmp 39, Operand.tmp 46], argTypes := #[215, 94, 4] }, type := 9, pos := "format.go:69", after := #[{ on := 3, ground := Ground.data }, { on := 4, ground := Ground.data }, { on := 11, ground := Ground.data }, { on := 7, ground := Ground.chain }], guard := none } : Oper)) rfl (fun K hK => ?_) AllReadyH.nil
  go_simp
  refine (CQ.out _).mono ?_
  rintro e W4 ⟨rfl, h4⟩
  have b4 : Below W2.heap.size W2 W4 := b3.trans ((⟨h4.os, h4.tape, h4.output, h4.size, h4.block⟩ : Below W3.heap.size W3 W4).mono b3.size)
  have S2 := HCW.out _ b4
  clear h4
  go_wp2_with fail
  refine hK.out _ _ (S2) (fun hHeld => ?_)
  clear hK K
  try simp only [Act.put, List.setIfInBounds_toArray, List.set_cons_zero, List.set_cons_succ]
  refine wpAnyH_take (i := 13) (oi := ({ dst := some 4, op := Op.assign (Operand.tmp 47), type := 9, pos := "format.go:69", after := #[{ on := 12, ground := Ground.data }, { on := 12, ground := Ground.chain }, { on := 0, ground := Ground.phase }, { on := 1, ground := Ground.phase }, { on := 2, ground := Ground.phase }, { on := 3, ground := Ground.phase }, { on := 4, ground := Ground.phase }, { on := 5, ground := Ground.phase }, { on := 6, ground := Ground.phase }, { on := 7, ground := Ground.phase }, { on := 8, ground := Ground.phase }, { on := 9, ground := Ground.phase }, { on := 10, ground := Ground.phase }, { on := 11, ground := Ground.phase }, { on := 12, ground := Ground.phase }], guard := none } : Oper)) (v := ?_) rfl (by kernel_rfl) (by kernel_rfl) (by kernel_rfl) (fun _ _ _ h => h) (Or.inl ⟨by rfl, ?_⟩) (by assumption) ?_
  rotate_left
  · intro w' hSw
    try dsimp only at hSw
    go_simp
    try with_reducible rfl
  try simp only [Act.put, List.setIfInBounds_toArray, List.set_cons_zero, List.set_cons_succ]
  refine wpAnyH_take (i := 14) (oi := ({ dst := some 5, op := Op.assign (Operand.const (Value.int IntKind.i64 0)), type := 48, pos := "format.go:69", after := #[{ on := 13, ground := Ground.chain }, { on := 0, ground := Ground.phase }, { on := 1, ground := Ground.phase }, { on := 2, ground := Ground.phase }, { on := 3, ground := Ground.phase }, { on := 4, ground := Ground.phase }, { on := 5, ground := Ground.phase }, { on := 6, ground := Ground.phase }, { on := 7, ground := Ground.phase }, { on := 8, ground := Ground.phase }, { on := 9, ground := Ground.phase }, { on := 10, ground := Ground.phase }, { on := 11, ground := Ground.phase }, { on := 12, ground := Ground.phase }, { on := 13, ground := Ground.phase }], guard := none } : Oper)) (v := ?_) rfl (by kernel_rfl) (by kernel_rfl) (by kernel_rfl) (fun _ _ _ h => h) (Or.inl ⟨by rfl, ?_⟩) (by assumption) ?_
  rotate_left
  · intro w' hSw
    try dsimp only at hSw
    go_simp
    try with_reducible rfl
  try simp only [Act.put, List.setIfInBounds_toArray, List.set_cons_zero, List.set_cons_succ]
  refine wpAnyH_done (by kernel_rfl) ?_ _
  refine NoPanic.normal ?_
  have hBf := HB2.out.trans (b4.mono hle2)
  go_wp2_with fail
  go_ret2
  exact ⟨rfl, by first | exact hBf | exact ⟨hBf.os, hBf.tape, hBf.output, hBf.size, hBf.block⟩⟩

theorem odd_fin {x : Nat} (hb : x < 18446744073709551616) (h : oddL x = none) : mag x < 9218868437227405312 := by
  rcases Nat.lt_or_ge (mag x) 9218868437227405312 with q | q
  · exact q
  · exfalso
    rcases Nat.lt_or_ge 9218868437227405312 (mag x) with h2 | h2
    · unfold oddL at h
      rw [if_pos (nan_yes h2)] at h
      cases h
    · have e : x = 9218868437227405312 ∨ x = 18442240474082181120 := by unfold mag at q h2; omega
      unfold oddL at h
      split at h
      · cases h
      · rcases e with rfl | rfl
        · rw [if_pos (by decide)] at h; cases h
        · rw [if_neg (by decide), if_pos (by decide)] at h; cases h
theorem number_any (m p b a z : Bool) (wd pr : Int) (c x : Nat) (w : World) (hc : c < 256) (hb : x < 18446744073709551616) (hT : PowTab w) :
    Calls Tryz.prog 135 #[.agg #[.bool m, .bool p, .bool b, .bool a, .bool z, .int .i64 wd, .int .i64 pr, .int .u8 (c : Int)], .float .f64 x] w fun e w' => e = .returned (.tuple #[.string ⟨(numT m p b a z wd pr c x).toArray⟩, .int .i64 (numE wd pr c)]) ∧ Below w.heap.size w w' := by
  by_cases hk : chkB wd pr c = true ∧ vNum.contains c.toUInt8 = true
  · have e1 : numE wd pr c = 0 := if_pos hk
    rw [e1]
    unfold numT
    rw [if_pos hk]
    cases ho : oddL x with
    | some n => exact number_odd m p b a z wd pr c x n w hb hk.1 hk.2 ho
    | none =>
      have hf := odd_fin hb ho
      cases hw : vWhole.contains c.toUInt8 with
      | true =>
        simp only [if_true]
        cases z with
        | true => exact number_whole_true m p b a wd pr c x w hc hb hf hk.1 hk.2 hw
        | false => exact number_whole_false m p b a wd pr c x w hc hb hf hk.1 hk.2 hw
      | false =>
        simp only [Bool.false_eq_true, if_false]
        exact number_point m p b a z wd pr c x w hb hf hk.1 hk.2 hw hT
  · have e1 : numE wd pr c = 50 := if_neg hk
    rw [e1]
    unfold numT
    rw [if_neg hk]
    exact number_no m p b a z wd pr c x w hk
end Go.Proofs.YtddfigbpckhfbaaGreatDoor

namespace Go.Proofs.YtddfigbpckhfbaaGreatDoor
open Go.RowKit Go.Lib

set_option maxRecDepth 100000 in
set_option maxHeartbeats 8000000 in
theorem wChar_text (W : World) (g : Nat) (kn : Int) (bits : Nat) (s : ByteArray) (by' : Bool) (hk : kn ≠ 1 ∧ kn ≠ 3) (h4 : W.cell? ⟨g, 4, none⟩ = some (.bool by')) (hs : s.size ≤ 1048576) (hT : Utf8Tabs 3 4 W) :
    Calls Tryz.prog 147 #[.pointer (some ⟨g, 0, none⟩), .agg #[.int .i64 kn, .float .f64 bits, .string s]] W fun e w' => e = .returned (.string (subB s by' 1 2)) ∧ Below W.heap.size W w' := by
  have hgl := World.block_lt_of_cell? W _ h4
  simp only at hgl
  have FA := Lib.hid (Five.new W #[.int .i64 kn, .float .f64 bits, .string s] 38)
  have HB0 := Lib.hid ((Below.refl W.heap.size W).alloc (Nat.le_refl _) (.cells #[.int .i64 kn, .float .f64 bits, .string s] 38))
  have h4' : (W.alloc (.cells #[.int .i64 kn, .float .f64 bits, .string s] 38)).cell? ⟨g, 4, none⟩ = some (.bool by') := (HB0.out.cell (p := ⟨g, 4, none⟩) hgl).trans h4
  obtain ⟨W1, hW1⟩ : ∃ W1, W.alloc (.cells #[.int .i64 kn, .float .f64 bits, .string s] 38) = W1 := ⟨_, rfl⟩
  have hT1 : Utf8Tabs 3 4 W1 := by rw [← hW1]; exact tabs_below hT HB0.out (Nat.le_refl _)
  have CS := Lib.hid (fun (W' : World) h => callsIn_wide.1 (sub_in s 1 2 by' W' hs h))
  obtain ⟨Q, hQ⟩ : ∃ Q, W.heap.size = Q := ⟨_, rfl⟩
  rw [hW1] at FA HB0 h4'
  rw [hQ] at FA HB0 hgl ⊢
  have HQ := Lib.hid hQ
  have HW1 := Lib.hid hW1
  have HT := Lib.hid (fun (W' : World) (h : Below W1.heap.size W1 W') => tabs_below hT1 h (Nat.le_refl _))
  have HCW := Lib.hid (fun (W' : World) (h : Below W1.heap.size W1 W') => (show W'.cell? ⟨Q, 2, none⟩ = some (.string s) ∧ W'.cell? ⟨g, 4, none⟩ = some (.bool by') from ⟨(FA.out.below h).cell 2, (h.cell (p := ⟨g, 4, none⟩) (by have := HB0.out.size; simp; omega)).trans h4'⟩))
  have k1 : (kn == 1) = false := by rw [beq_eq_false_iff_ne]; exact hk.1
  have k3 : (kn == 3) = false := by rw [beq_eq_false_iff_ne]; exact hk.2
  have n1 : (kn != 1) = true := by rw [bne_iff_ne]; exact hk.1
  have n3 : (kn != 3) = true := by rw [bne_iff_ne]; exact hk.2
  obtain ⟨m1, m3⟩ : ¬ kn = 1 ∧ ¬ kn = 3 := hk
  obtain ⟨a0, a1, a2, -⟩ := FA.out.three
  clear hQ hW1 hT hT1 h4
  go_enter Tryz.func147, Tryz.ntmps147
  go_wp2_with fail
  rw [HW1.out, HQ.out]
  go_region_held3 (fun w' => w'.cell? ⟨Q, 2, none⟩ = some (.string s) ∧ w'.cell? ⟨g, 4, none⟩ = some (.bool by'))
    (first | (with_reducible exact S1) | go_keep)
    (first
    | (go_at_call 192; (with_reducible refine (CS.out _ (HT.out _ (by first | exact Below.refl _ _ | exact (Below.refl _ _).drew))).mono ?_); rintro e W3 ⟨rfl, h3⟩; have b3 : Below W1.heap.size W1 W3 := ⟨h3.os, h3.tape, h3.output, h3.size, h3.block⟩; have S1 := HCW.out _ b3; clear h3))
  all_goals
    have hBf := HB0.out.trans (b3.mono (by have := HB0.out.size; have := HQ.out; omega))
    go_wp2_with fail
    go_ret
    exact ⟨rfl, by first | exact hBf | exact ⟨hBf.os, hBf.tape, hBf.output, hBf.size, hBf.block⟩⟩
abbrev fCode : Nat := 4746794007244308480
theorem fCode_V : V fCode = 2147483647 * S1074 := by decide +kernel
/-- How character looks at a whole float. -/
theorem chr_dec {b t : Nat} (h : TruncOf b t) (hb : b < 18446744073709551616) :
    ((FloatKind.f64.format.order t 0 == some Ordering.gt || FloatKind.f64.format.order t 0 == some Ordering.eq) = true ∧ (FloatKind.f64.format.order t fCode == some Ordering.lt || FloatKind.f64.format.order t fCode == some Ordering.eq) = true ∧ floatToIntVal .f64 t .i64 = some (chrN b : Int)) ∨
    ((FloatKind.f64.format.order t 0 == some Ordering.gt || FloatKind.f64.format.order t 0 == some Ordering.eq) = false ∧ chrN b = 0) ∨
    ((FloatKind.f64.format.order t 0 == some Ordering.gt || FloatKind.f64.format.order t 0 == some Ordering.eq) = true ∧ (FloatKind.f64.format.order t fCode == some Ordering.lt || FloatKind.f64.format.order t fCode == some Ordering.eq) = false ∧ chrN b = 0) := by
  by_cases hm : mag b ≤ 9218868437227405312
  · obtain ⟨t1, t2, t3, t4⟩ := h.mag hb hm
    have o0 : FloatKind.f64.format.order t 0 = some (compare (keyZ t) (keyZ 0)) := order_key t1 (by decide)
    have o1 : FloatKind.f64.format.order t fCode = some (compare (keyZ t) (keyZ fCode)) := order_key t1 (by decide)
    rw [show keyZ 0 = 0 from by decide] at o0
    rw [show keyZ fCode = 4746794007244308480 from by decide] at o1
    rw [o0, o1]
    have hfc : fCode = 4746794007244308480 := rfl
    have hV := whQ_V t4
    by_cases h0 : sgn t = 0
    · have hz : whZ t = (whQ (mag t) : Int) := by unfold whZ; rw [if_pos h0]
      have g0 : (some (compare ((mag t : Nat) : Int) 0) == some Ordering.gt || some (compare ((mag t : Nat) : Int) 0) == some Ordering.eq) = true := by
        rcases Nat.eq_zero_or_pos (mag t) with e | e
        · rw [Int.compare_eq_eq.2 (by omega)]; rfl
        · rw [Int.compare_eq_gt.2 (by omega)]; rfl
      rw [key_pos h0]
      by_cases hle : mag t ≤ fCode
      · have hq : whQ (mag t) ≤ 2147483647 := by
          have := V_le hle
          rw [hV, fCode_V] at this
          exact Nat.le_of_mul_le_mul_right this S_pos
        have hbi : mag b < 9218868437227405312 := by
          rcases Nat.lt_or_ge (mag b) 9218868437227405312 with e | e
          · exact e
          · have e1 : mag b = 9218868437227405312 := by omega
            have e2 := h.inf e1
            rw [e2] at hle
            omega
        left
        refine ⟨g0, ?_, ?_⟩
        · rcases Nat.lt_or_eq_of_le hle with e | e
          · rw [Int.compare_eq_lt.2 (by omega)]; rfl
          · rw [Int.compare_eq_eq.2 (by omega)]; rfl
        · rw [int_of_wh (Nat.lt_of_le_of_lt hle (by decide)) (Nat.lt_of_le_of_lt hq (by decide)), hz]
          have : chrN b = whQ (mag t) := by
            unfold chrN
            rw [if_pos ⟨hbi, t2.symm.trans h0, Nat.le_trans (Nat.le_of_eq t3.symm) hq⟩, t3]
          rw [this]
      · right; right
        refine ⟨g0, ?_, ?_⟩
        · rw [Int.compare_eq_gt.2 (by omega)]; rfl
        · have hq : 2147483647 < whQ (mag t) := by
            rcases Nat.lt_or_ge 2147483647 (whQ (mag t)) with e | e
            · exact e
            · exfalso
              have h1 := V_lt (r := fCode) (s := mag t) (by omega)
              rw [hV, fCode_V] at h1
              exact absurd (Nat.lt_of_mul_lt_mul_right h1) (Nat.not_lt_of_ge e)
          unfold chrN
          rw [if_neg (fun z => absurd (Nat.le_trans (Nat.le_of_eq t3) z.2.2) (Nat.not_le_of_gt hq))]
    · have hc : chrN b = 0 := by
        unfold chrN
        rw [if_neg (fun q => h0 (t2.trans q.2.1))]
      rw [key_neg h0]
      rcases Nat.eq_zero_or_pos (mag t) with e | e
      · left
        refine ⟨?_, ?_, ?_⟩
        · rw [Int.compare_eq_eq.2 (by omega)]; rfl
        · rw [Int.compare_eq_lt.2 (by omega)]; rfl
        · have hq0 : whQ (mag t) = 0 := by rw [e]; decide +kernel
          rw [int_of_wh (by rw [e]; decide) (by rw [hq0]; decide), hc]
          unfold whZ
          rw [if_neg h0, hq0]
          rfl
      · right; left
        refine ⟨?_, hc⟩
        rw [Int.compare_eq_lt.2 (by omega)]; rfl
  · right; left
    have hn := h.nan (by omega)
    refine ⟨?_, ?_⟩
    · rw [show FloatKind.f64.format.order t 0 = none from order_nan_l hn]; rfl
    · unfold chrN
      rw [if_neg (by omega)]
theorem ba_empty_or (X : ByteArray) : (X = ⟨#[]⟩) ∨ (0 < X.size ∧ ¬ X.data.toList = [] ∧ (X.data.toList == []) = false ∧ ¬ X = ⟨#[]⟩ ∧ X.toList.isEmpty = false ∧ ¬ X.toList = []) := by
  by_cases h : X.size = 0
  · left
    have : X.data.toList = [] := List.length_eq_zero_iff.1 (by rw [ba_len]; exact h)
    rw [← Lib.mk_data X, this]
  · right
    have h1 : ¬ X.data.toList = [] := fun e => h (by rw [← ba_len, e]; rfl)
    refine ⟨by omega, h1, ?_, fun e => h (by rw [e]; rfl), ?_, ?_⟩
    · rw [beq_eq_false_iff_ne]
      exact h1
    · rw [Lib.toList_data]
      cases q : X.data.toList with
      | nil => exact absurd q h1
      | cons a l => rfl
    · rw [Lib.toList_data]
      exact h1
set_option maxRecDepth 100000 in
set_option maxHeartbeats 8000000 in
theorem wChar_num (W : World) (g : Nat) (kn : Int) (bits : Nat) (s : ByteArray) (by' : Bool) (hk : kn = 1 ∨ kn = 3) (h4 : W.cell? ⟨g, 4, none⟩ = some (.bool by')) (hs : s.size ≤ 140737488355328) (hb : bits < 18446744073709551616) :
    Calls Tryz.prog 147 #[.pointer (some ⟨g, 0, none⟩), .agg #[.int .i64 kn, .float .f64 bits, .string s]] W fun e w' => e = .returned (.string (letB ⟨kn, bits, s⟩ by')) ∧ Below W.heap.size W w' := by
  have hgl := World.block_lt_of_cell? W _ h4
  simp only at hgl
  have FA := Lib.hid (Five.new W #[.int .i64 kn, .float .f64 bits, .string s] 38)
  have HB0 := Lib.hid ((Below.refl W.heap.size W).alloc (Nat.le_refl _) (.cells #[.int .i64 kn, .float .f64 bits, .string s] 38))
  have h4' : (W.alloc (.cells #[.int .i64 kn, .float .f64 bits, .string s] 38)).cell? ⟨g, 4, none⟩ = some (.bool by') := (HB0.out.cell (p := ⟨g, 4, none⟩) hgl).trans h4
  obtain ⟨W1, hW1⟩ : ∃ W1, W.alloc (.cells #[.int .i64 kn, .float .f64 bits, .string s] 38) = W1 := ⟨_, rfl⟩
  have e0 : numV2 kn bits s = bits := by unfold numV2; rw [if_pos hk]
  have C1 := fun W => cNumber_any kn bits s W hs
  rw [e0] at C1
  have C1 := Lib.hid C1
  have C2 := Lib.hid (fun W => numTrunc_all bits W hb)
  obtain ⟨Q, hQ⟩ : ∃ Q, W.heap.size = Q := ⟨_, rfl⟩
  rw [hW1] at FA HB0 h4'
  rw [hQ] at FA HB0 hgl ⊢
  have HQ := Lib.hid hQ
  have HW1 := Lib.hid hW1
  have HC4 := Lib.hid (fun (W' : World) (h : Below W1.heap.size W1 W') => (show W'.cell? ⟨g, 4, none⟩ = some (.bool by') from (h.cell (p := ⟨g, 4, none⟩) (by have := HB0.out.size; have := HQ.out; simp; omega)).trans h4'))
  obtain ⟨a0, a1, a2, -⟩ := FA.out.three
  obtain ⟨RB, hRB⟩ : ∃ RB, letB ⟨kn, bits, s⟩ by' = RB := ⟨_, rfl⟩
  rw [hRB]
  have HRB := Lib.hid hRB
  clear hQ hW1 h4 hRB e0
  rcases hk with rfl | rfl
  all_goals
    go_enter Tryz.func147, Tryz.ntmps147
    go_wp2_with fail
    rw [HW1.out, HQ.out]
    refine (C1.out _).mono ?_
    rintro e W2 ⟨rfl, h2⟩
    have HB2 := Lib.hid h2
    clear h2
    go_wp2_with fail
    refine (C2.out _).mono ?_
    rintro e W3 ⟨⟨t, rfl, ht⟩, h3⟩
    have HB3 := Lib.hid (HB2.out.trans (h3.mono HB2.out.size))
    clear h3
    clear a0 a1 a2 FA HB2
    have hcd := chr_dec ht hb
    obtain ⟨X, hX⟩ : ∃ X, textB (chrN bits : Int) = X := ⟨_, rfl⟩
    have CT := Lib.hid (fun W' => utext_any (chrN bits : Int) W' (by unfold chrN; split <;> omega))
    have hN : chrN bits ≤ 2147483647 := by unfold chrN; split <;> omega
    have hRB := HRB.out
    unfold letB at hRB
    rw [if_neg (by dsimp only; omega)] at hRB
    dsimp only at hRB
    rw [hX] at hRB
    rw [hX] at CT
    obtain ⟨n, hn⟩ : ∃ n, chrN bits = n := ⟨_, rfl⟩
    rw [hn] at hcd CT hN hRB
    have hb3 : Below W1.heap.size W1 W3 := HB3.out
    have hBQ : Q ≤ W1.heap.size := by have := HB0.out.size; have := HQ.out; omega
    have hcv := fun W' => conv_1 W' ((n : Int) % 256) (by omega)
    have hby : (⟨#[(n % 256).toUInt8]⟩ : ByteArray) = ⟨#[UInt8.ofNat ((n : Int) % 256).toNat]⟩ := by rw [show ((n : Int) % 256).toNat = n % 256 by omega]
    rw [hby] at hRB
    clear hby
    clear hX hn ht hb h4' hs
    rcases hcd with ⟨g0, g1, hi⟩ | ⟨g0, hc0⟩ | ⟨g0, g1, hc0⟩
    · have r3 : ∀ W, (convert 24 3 (.float .f64 t)).run Tryz.prog W = .ok (.int .i64 (n : Int)) W := fun W => run_convert_float_int W 24 3 .f64 .i64 _ _ (by rw [Tryz.underlying24]; rfl) Tryz.underlying3 hi
      clear hi
      go_wp2_with fail
      refine (CT.out _).mono ?_
      rintro e W4 ⟨rfl, h4⟩
      have HB4 := Lib.hid (hb3.trans (h4.mono hb3.size))
      have c4 := HC4.out _ HB4.out
      have hbz : Q ≤ W4.heap.size := Nat.le_trans hBQ HB4.out.size
      have HB5 := Lib.hid (HB0.out.trans (HB4.out.mono hBQ))
      clear h4
      rcases ba_empty_or X with rfl | ⟨x0, x1, x2, x3, x4, x5⟩
      · rw [if_neg (fun q => absurd q.1 (by decide))] at hRB
        have HRB2 := Lib.hid hRB
        clear hRB
        go_wp2_with fail
        go_ret
        exact ⟨by rw [← HRB2.out]; rfl, HB5.out.alloc hbz _⟩
      · cases by' with
        | false =>
          rw [if_pos ⟨x0, rfl⟩] at hRB
          have HRB2 := Lib.hid hRB
          clear hRB x0 x1
          go_wp2_with fail
          go_ret
          exact ⟨by rw [← HRB2.out]; rfl, HB5.out⟩
        | true =>
          rw [if_neg (fun q => absurd q.2 (by decide))] at hRB
          have HRB2 := Lib.hid hRB
          clear hRB x0 x1
          go_wp2_with fail
          go_ret
          exact ⟨by rw [← HRB2.out]; rfl, HB5.out.alloc hbz _⟩
    · rw [hc0, show ((0 : Nat) : Int) = 0 from rfl] at CT
      rw [hc0] at hRB
      have hcv0 := fun W' => conv_1 W' 0 (by omega)
      clear hcv hc0
      go_wp2_with fail
      refine (CT.out _).mono ?_
      rintro e W4 ⟨rfl, h4⟩
      have HB4 := Lib.hid (hb3.trans (h4.mono hb3.size))
      have c4 := HC4.out _ HB4.out
      have hbz : Q ≤ W4.heap.size := Nat.le_trans hBQ HB4.out.size
      have HB5 := Lib.hid (HB0.out.trans (HB4.out.mono hBQ))
      clear h4
      rcases ba_empty_or X with rfl | ⟨x0, x1, x2, x3, x4, x5⟩
      · rw [if_neg (fun q => absurd q.1 (by decide))] at hRB
        have HRB2 := Lib.hid hRB
        clear hRB
        go_wp2_with fail
        go_ret
        exact ⟨by rw [← HRB2.out]; rfl, HB5.out.alloc hbz _⟩
      · cases by' with
        | false =>
          rw [if_pos ⟨x0, rfl⟩] at hRB
          have HRB2 := Lib.hid hRB
          clear hRB x0 x1
          go_wp2_with fail
          go_ret
          exact ⟨by rw [← HRB2.out]; rfl, HB5.out⟩
        | true =>
          rw [if_neg (fun q => absurd q.2 (by decide))] at hRB
          have HRB2 := Lib.hid hRB
          clear hRB x0 x1
          go_wp2_with fail
          go_ret
          exact ⟨by rw [← HRB2.out]; rfl, HB5.out.alloc hbz _⟩
    · rw [hc0, show ((0 : Nat) : Int) = 0 from rfl] at CT
      rw [hc0] at hRB
      have hcv0 := fun W' => conv_1 W' 0 (by omega)
      clear hcv hc0
      go_wp2_with fail
      refine (CT.out _).mono ?_
      rintro e W4 ⟨rfl, h4⟩
      have HB4 := Lib.hid (hb3.trans (h4.mono hb3.size))
      have c4 := HC4.out _ HB4.out
      have hbz : Q ≤ W4.heap.size := Nat.le_trans hBQ HB4.out.size
      have HB5 := Lib.hid (HB0.out.trans (HB4.out.mono hBQ))
      clear h4
      rcases ba_empty_or X with rfl | ⟨x0, x1, x2, x3, x4, x5⟩
      · rw [if_neg (fun q => absurd q.1 (by decide))] at hRB
        have HRB2 := Lib.hid hRB
        clear hRB
        go_wp2_with fail
        go_ret
        exact ⟨by rw [← HRB2.out]; rfl, HB5.out.alloc hbz _⟩
      · cases by' with
        | false =>
          rw [if_pos ⟨x0, rfl⟩] at hRB
          have HRB2 := Lib.hid hRB
          clear hRB x0 x1
          go_wp2_with fail
          go_ret
          exact ⟨by rw [← HRB2.out]; rfl, HB5.out⟩
        | true =>
          rw [if_neg (fun q => absurd q.2 (by decide))] at hRB
          have HRB2 := Lib.hid hRB
          clear hRB x0 x1
          go_wp2_with fail
          go_ret
          exact ⟨by rw [← HRB2.out]; rfl, HB5.out.alloc hbz _⟩
theorem wChar_any (W : World) (g : Nat) (c : Cl) (by' : Bool) (h4 : W.cell? ⟨g, 4, none⟩ = some (.bool by')) (hf : c.fine) (hs : c.str.size ≤ 1048576) (hT : Utf8Tabs 3 4 W) :
    Calls Tryz.prog 147 #[.pointer (some ⟨g, 0, none⟩), .agg #[.int .i64 c.kind, .float .f64 c.bits, .string c.str]] W fun e w' => e = .returned (.string (letB c by')) ∧ Below W.heap.size W w' := by
  by_cases hk : c.kind = 1 ∨ c.kind = 3
  · exact wChar_num W g c.kind c.bits c.str by' hk h4 hf.str hf.bits
  · have e : letB c by' = subB c.str by' 1 2 := by unfold letB; rw [if_pos (by omega)]
    rw [e]
    exact wChar_text W g c.kind c.bits c.str by' (by omega) h4 hs hT
theorem let_size (c : Cl) (b : Bool) (hs : c.str.size ≤ 1048576) : (letB c b).size ≤ 1048576 := by
  unfold letB
  split
  · exact Nat.le_trans (sub_size _ _ _ _) hs
  · split
    · unfold textB
      split
      · show 1 ≤ 1048576; omega
      · split
        · unfold Utf8.encode
          dsimp only
          repeat' split
          all_goals first | (show 1 ≤ 1048576; omega) | (show 2 ≤ 1048576; omega) | (show 3 ≤ 1048576; omega) | (show 4 ≤ 1048576; omega)
        · exact Nat.zero_le _
    · show 1 ≤ 1048576; omega
end Go.Proofs.YtddfigbpckhfbaaGreatDoor
