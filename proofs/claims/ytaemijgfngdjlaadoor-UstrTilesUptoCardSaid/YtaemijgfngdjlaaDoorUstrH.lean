/- Contracts of layer 1: recase. -/
import Derived.Deep.Upon
import Derived.Test.YtaemijgfngdjlaaDoorUstrG
namespace Go.Proofs.YtaemijgfngdjlaaDoor
open Go.RowKit Go.Lib Go.Shelf
attribute [local go_sem] Oper.semAt_some

/-- '[]byte(s)': a new row whose first cells are the bytes. -/
theorem bytes_new (W : World) (s : ByteArray) : ∃ cap row mk, s.size ≤ cap ∧
    (convert 9 51 (.string s)).run Tryd.prog W = .ok (.slice (some ⟨W.heap.size, 0, none⟩) s.size cap) (W.drew.alloc (.cells row 5 mk)) ∧
    (∀ j, j < s.size → row[j]? = some (.int .u8 (s.data.toList.getD j 0).toNat)) ∧ (∀ X : World, ∀ j, j < s.size → (X.alloc (.cells row 5 mk)).frozen? ⟨X.heap.size, j, none⟩ = false) := by
  refine ⟨_, _, _, ?_, run_bytes_of_string (P := Tryd.prog) W 9 51 5 s Tryd.underlying9 Tryd.underlying51 Tryd.underlying5, ?_, ?_⟩
  · exact grownCap_ge _ _ _ _
  · intro j hj
    have h : j < s.data.size := hj
    rw [bytesRow_at s _ j h]
    rw [List.getD_eq_getElem?_getD, Array.getElem?_toList, Array.getElem?_eq_getElem h]
    rfl
  · intro X j hj
    rw [World.frozen?_alloc_mark]
    have : (bytesRow s (grownCap W s.size 0 5)).size ≥ s.size := by
      unfold bytesRow
      rw [Array.size_append, Array.size_map]
      exact Nat.le_add_right _ _
    simp only [Bool.and_eq_false_iff, decide_eq_false_iff_not]
    left; omega

/-- A row's first cells are these bytes, and may be written. -/
def RowB (W : World) (R : Nat) (L : List UInt8) : Prop := ∀ j, j < L.length → W.cell? ⟨R, j, none⟩ = some (.int .u8 (L.getD j 0).toNat) ∧ W.frozen? ⟨R, j, none⟩ = false
theorem RowB.kept {W W' : World} {R : Nat} {L : List UInt8} (h : RowB W R L) {row : Option Nat} (hg : W.grownBy W' row) (hr : ∀ r, row = some r → ∃ o : Obj, W.heap[r]? = some o ∧ o.isCells = false) : RowB W' R L :=
  fun j hj => ⟨cell_kept (h j hj).1 hg hr, (frozen_kept (h j hj).1 hg hr).trans (h j hj).2⟩
theorem RowB.below {W W' : World} {R n : Nat} {L : List UInt8} (h : RowB W R L) (hb : Below n W W') (hR : R < n) : RowB W' R L :=
  fun j hj => ⟨(hb.cell (p := ⟨R, j, none⟩) hR).trans (h j hj).1, (hb.frozen (p := ⟨R, j, none⟩) hR).trans (h j hj).2⟩
theorem RowB.put {W : World} {R : Nat} {L : List UInt8} (h : RowB W R L) (p : Nat) (t : List UInt8) (ht : p + t.length ≤ L.length) : RowB (W.setCells R p (t.map fun x => Value.int .u8 (x.toNat : Int))) R (putL L p t) := by
  intro j hj
  rw [putL_len L p t ht] at hj
  refine ⟨?_, by rw [World.frozen?_setCells]; exact (h j hj).2⟩
  by_cases hin : p ≤ j ∧ j < p + t.length
  · obtain ⟨i, rfl⟩ : ∃ i, j = p + i := ⟨j - p, by omega⟩
    rw [putL_in L p t ht i (by omega), World.cell?_setCells_in R _ p W (fun q hq => by rw [(h (p + q) (by simp at hq; omega)).1]; rfl) i (by simp; omega)]
    have hi : i < t.length := by omega
    simp [List.getD_eq_getElem?_getD, hi]
  · rw [putL_out L p t ht j (by omega), World.cell?_setCells_out R _ p W _ (fun _ _ => by simp only [List.length_map]; omega)]
    exact (h j hj).1

theorem keepsOthers_setCells (R : Nat) : ∀ (vs : List Value) (o : Nat) (W : World), KeepsOthers W (W.setCells R o vs)
  | [], _, W => KeepsOthers.refl W
  | v :: r, o, W => (KeepsOthers.setCell W ⟨R, o, none⟩ v).trans (keepsOthers_setCells R r (o + 1) _)
/-- A call that lays new blocks alone, and a store into row R behind it. -/
theorem body_end {W W2 : World} (hb : Below W.heap.size W W2) (R p : Nat) (vs : List Value) :
    KeepsOthers W (W2.setCells R p vs) ∧ (∀ c, c < W.heap.size → c ≠ R → (W2.setCells R p vs).heap[c]? = W.heap[c]?) ∧ (∀ n, n ≤ R → n ≤ W.heap.size → Below n W (W2.setCells R p vs)) :=
  ⟨(KeepsOthers.of_grownBy (grown_of_below hb) (fun _ _ e => by cases e)).trans (keepsOthers_setCells R vs p W2),
    fun c hc hne => (Go.World.heap_setCells_other W2 R p vs (by have := hb.size; omega) hne).trans (hb.block c hc),
    fun n hn hW => Go.below_setCells hn vs p W2 (hb.mono hW)⟩

/-- Six new blocks. -/
theorem push6 (h : Array Obj) (a b c d e f : Obj) (H : Array Obj) (hH : H = (((((h.push a).push b).push c).push d).push e).push f) :
    H.size = h.size + 6 ∧ H[h.size]? = some a ∧ H[h.size + 1]? = some b ∧ H[h.size + 1 + 1]? = some c ∧ H[h.size + 1 + 1 + 1]? = some d ∧ H[h.size + 4]? = some e ∧ H[h.size + 4 + 1]? = some f := by
  subst hH
  simp only [Array.getElem?_push, Array.size_push]
  refine ⟨trivial, ?_, ?_, ?_, ?_, ?_, ?_⟩
  all_goals
    repeat' split
  all_goals first | rfl | (exfalso; omega) | simp_all

set_option maxRecDepth 100000 in
set_option maxHeartbeats 1000000 in
theorem recLow_in (s : ByteArray) (b : Bool) (w : World) (hs : s.size ≤ 140737488355328) (hT : Utf8Tabs 0 1 w) (hf : KeepsWid s b (foldZ · b)) :
    CallsIn Fence.wide 10 Tryd.prog 41 #[.string s, .bool b, .func (.func 29) #[] #[]] w fun e w' => e = .returned (.string (recB s b (foldZ · b))) ∧ Below w.heap.size w w' := by
  obtain ⟨cap, row, mk, hcap, hcv, hrow, hfz⟩ := bytes_new ((w.alloc (.cells #[.bool b] 4)).alloc (.cells #[.func (.func 29) #[] #[]] 45)) s
  refine callsIn_of_wp_marks Tryd.func41 rfl trivial ?_ rfl
  simp only [Tryd.ntmps41, List.size_toArray, List.length_cons, List.length_nil, Nat.reduceAdd, Nat.reduceSub, Array.replicate_succ, Array.replicate_zero, List.push_toArray, List.append_toArray, List.nil_append, List.cons_append]
  gi_wp2_with fail
  refine ⟨trivial, (callsIn_wide.2 (all_any _ _ _)).mono ?_⟩
  rintro e W0 ⟨rfl, hW⟩
  clear hcv
  obtain ⟨hsz, x4, x5, xr, x7, xa, xb⟩ := push6 w.heap (.cells #[.bool b] 4) (.cells #[.func (.func 29) #[] #[]] 45) (.cells row 5 mk) (.cells #[.slice (some ⟨w.heap.size + 1 + 1, 0, none⟩) s.size cap] 51) (.cells #[.string s] 9) (.cells #[.bool b] 4) W0.heap (by rw [← hW]; rfl)
  have hb0 : Below w.heap.size w W0 := by
    rw [← hW]
    exact (((((((Below.refl _ _).alloc (Nat.le_refl _) _).alloc (by simp) _).alloc (by simp; omega) _).alloc (by simp; omega) _).drew).alloc (by simp; omega) _).alloc (by simp; omega) _
  have hTW : Utf8Tabs 0 1 W0 := tabs_below hT hb0 (Nat.le_refl _)
  have e4 : ((((w.alloc (Obj.cells #[Value.bool b] 4)).alloc (Obj.cells #[Value.func (Fn.func 29) #[] #[]] 45)).alloc (Obj.cells row 5 mk)).alloc (Obj.cells #[Value.slice (some ⟨w.heap.size + 1 + 1, 0, none⟩) s.size cap] 51)).drew.heap.size = w.heap.size + 4 := by simp
  rw [e4]
  have hrow0 : RowB W0 (w.heap.size + 1 + 1) s.data.toList := by
    intro j hj
    rw [← Lib.size_eq] at hj
    have := hfz ((w.alloc (Obj.cells #[Value.bool b] 4)).alloc (Obj.cells #[Value.func (Fn.func 29) #[] #[]] 45)) j hj
    have hz : ((w.alloc (Obj.cells #[Value.bool b] 4)).alloc (Obj.cells #[Value.func (Fn.func 29) #[] #[]] 45)).heap.size = w.heap.size + 1 + 1 := by simp
    have hx := World.alloc_heap_new ((w.alloc (Obj.cells #[Value.bool b] 4)).alloc (Obj.cells #[Value.func (Fn.func 29) #[] #[]] 45)) (.cells row 5 mk)
    rw [hz] at this hx
    refine ⟨?_, ?_⟩
    · simp only [World.cell?, xr]
      exact hrow j hj
    · simp only [World.frozen?, hx] at this
      simp only [World.frozen?, xr]
      exact this
  clear hW e4 hrow hfz xr
  gi_wp2
  refine wpIn_rangeFunc_ownF rfl (by omega) (gf := 34) (lb := #[.pointer (some ⟨w.heap.size + 4, 0, none⟩), .pointer (some ⟨w.heap.size + 4 + 1, 0, none⟩)]) rfl trivial (enters_of Tryd.func34 (by kernel_rfl) rfl)
    (all_stops 9 (by omega) s b (w.heap.size + 4) (w.heap.size + 4 + 1) W0 (by omega) (Boxed.cell xa) (Boxed.cell xb) hTW) KeepsAt.trans
    (fun W l o o' hl _ _ _ => KeepsAt.putObj W0.heap.size (fun c hc => by have := tabs_lt hTW; simp at hc; omega) W l o' hl) (Below.refl _ _) (fun _ => rfl)
    (fun pre W => (Boxed W w.heap.size 4 (.bool b) ∧ Boxed W (w.heap.size + 1) 45 (.func (.func 29) #[] #[]) ∧ Boxed W (w.heap.size + 1 + 1 + 1) 51 (.slice (some ⟨w.heap.size + 1 + 1, 0, none⟩) s.size cap) ∧
      ∃ L : List UInt8, L.length = s.size ∧ (pre = List.range pre.length → L = rowL s b (foldZ · b) pre.length) ∧ RowB W (w.heap.size + 1 + 1) L ∧ w.heap.size + 6 ≤ W.heap.size) ∧ Below w.heap.size w W)
    (fun _ _ _ => False) ?hI ?hIx ⟨⟨x4, x5, x7, s.data.toList, (Lib.size_eq s).symm, fun _ => rfl, hrow0, by omega⟩, hb0⟩
    (fun k => { tmps := #[.string s, .bool b, .func (.func 29) #[] #[], undef, .pointer (some ⟨w.heap.size, 0, none⟩), .pointer (some ⟨w.heap.size + 1, 0, none⟩), .string ⟨#[]⟩, .pointer (some ⟨w.heap.size + 1 + 1 + 1, 0, none⟩),
      .int .i64 (pl s b k), .int .i64 (cod s b (pl s b k)), undef, .string s, .slice (some ⟨w.heap.size + 1 + 1, 0, none⟩) s.size cap, .string s, .bool b,
      .func (.func 34) #[] #[.pointer (some ⟨w.heap.size + 4, 0, none⟩), .pointer (some ⟨w.heap.size + 4 + 1, 0, none⟩)], .int .i64 (pl s b k), .int .i64 (cod s b (pl s b k)),
      undef, undef, undef, undef, undef, undef, undef, undef, undef, undef, undef, undef, undef, undef, undef], defers := [] }) ?assign ?body ?done ?stop
  case hI =>
    refine OwnFrom.and (Own.from (fun st A B row hs hg hr => ?_) _) (ownFrom_below (Nat.le_refl _) (by omega))
    obtain ⟨h4, h5, h7, L, hL1, hL2, hL3, hL5⟩ := hs
    have hne : ∀ {c : Nat} {t : TypeId} {v : Value}, Boxed A c t v → Boxed B c t v := fun {c t v} hx => hx.kept hg (fun e => by
      obtain ⟨o, ho, hc⟩ := hr c e.symm
      rw [hx] at ho; cases ho; cases hc)
    exact ⟨hne h4, hne h5, hne h7, L, hL1, hL2, hL3.kept hg hr, by have := hg.size; omega⟩
  case hIx => exact fun _ _ _ _ _ hs _ _ => hs
  case assign =>
    intro l k W K hK
    gi_wp2
    exact hK
  case body =>
    have zT := tabs_lt hT
    have zB := hb0.size
    clear hTW
    rintro l pre k W ⟨⟨b4, b5, b7, L, hL1, hL2, hL3, hL5⟩, hB⟩ hlen
    have hple := pl_le s b k
    obtain ⟨C, hC⟩ : ∃ C, cod s b (pl s b k) = C := ⟨_, rfl⟩
    obtain ⟨p, hp⟩ : ∃ p, pl s b k = p := ⟨_, rfl⟩
    have c4 := b4.cell
    have c5 := b5.cell
    have c7 := b7.cell
    have cF := fun (W : World) => fold_any C b W
    by_cases hch : foldZ C b = C
    · have hL4 : pre ++ [k] = List.range (pre ++ [k]).length → L = rowL s b (foldZ · b) (pre ++ [k]).length := by
        intro he
        rw [List.length_append, List.length_cons, List.length_nil, Nat.zero_add] at he ⊢
        rw [List.range_succ] at he
        obtain ⟨h1, h2⟩ := List.append_inj' he rfl
        obtain rfl : k = pre.length := by simpa using h2
        rw [rowL_same s b _ _ (by rw [hC]; exact hch)]
        exact hL2 h1
      rw [hch] at cF
      rw [hC, hp]
      clear hL2 hC hp hch
      have CF := Lib.hid cF; clear cF
      have HL := Lib.hid hL4; clear hL4
      have HB := Lib.hid hB; clear hB
      gi_wp2_with fail
      refine ⟨trivial, (CallsIn.inRound l (callsIn_wide.2 (CF.out _))).mono ?_⟩
      rintro e w' ⟨rfl, rfl⟩
      gi_wp2
      exact ⟨KeepsOthers.refl _, KeepsAt.refl _ _, ⟨b4, b5, b7, L, hL1, HL.out, hL3, hL5⟩, HB.out⟩
    · have hk : k < cnt s b := by
        rcases Nat.lt_or_ge k (cnt s b) with h | h
        · exact h
        · exfalso
          apply hch
          rw [← hC]
          have : cod s b (pl s b k) = 0 := by
            unfold cod
            rw [nextZ_out s _ b (.inr (by rw [pl_end s b (cnt s b) (pl_cnt s b) k h]; exact Int.le_refl _))]
          rw [this]
          simp [foldZ, capZ]
      have hplt := (cnt_spec s b k).2 hk
      have hwd := (wid_in s b _ hplt).2
      have htx : (textB (foldZ C b)).size = wid s b p := by
        rw [← hC, ← hp]
        exact hf _ hplt (by rw [hC]; exact hch)
      have hL4 : pre ++ [k] = List.range (pre ++ [k]).length → putL L p (textB (foldZ C b)).data.toList = rowL s b (foldZ · b) (pre ++ [k]).length := by
        intro he
        rw [List.length_append, List.length_cons, List.length_nil, Nat.zero_add] at he ⊢
        rw [List.range_succ] at he
        obtain ⟨h1, h2⟩ := List.append_inj' he rfl
        obtain rfl : k = pre.length := by simpa using h2
        rw [hL2 h1, ← rowL_put s b _ hf _ hk (by rw [hC]; exact hch), hC, hp]
      rw [hp] at hplt hwd
      rw [hC, hp]
      obtain ⟨D, hD⟩ : ∃ D, foldZ C b = D := ⟨_, rfl⟩
      rw [hD] at cF hch htx hL4
      obtain ⟨T, hT'⟩ : ∃ T, textB D = T := ⟨_, rfl⟩
      rw [hT'] at htx hL4
      rw [← htx] at hwd
      have hD2 : -9223372036854775808 ≤ D ∧ D ≤ 9223372036854775807 := by
        have hc := cod_le s b (pl s b k)
        rw [hC] at hc
        have : (C : Int) ≤ 1114367 ∧ 0 ≤ (C : Int) := by omega
        rw [← hD]
        unfold foldZ
        split <;> omega
      have cT := fun (W : World) => text_any D W hD2
      rw [hT'] at cT
      have hch' : (D != (C : Int)) = true := by simpa using hch
      clear hL2 hC hp hD hT' htx hch
      have CF := Lib.hid cF; clear cF
      have CT := Lib.hid cT; clear cT
      have HL := Lib.hid hL4; clear hL4
      have HB := Lib.hid hB; clear hB
      gi_wp2_with fail
      refine ⟨trivial, (CallsIn.inRound l (callsIn_wide.2 (CF.out _))).mono ?_⟩
      rintro e w' ⟨rfl, rfl⟩
      gi_wp2
      have hr : ∀ W2 : World, Below W.heap.size W W2 → (Builtin.copy_ #[51, 9] 3 #[.slice (some ⟨w.heap.size + 1 + 1, p, none⟩) (s.size - p) (cap - p), .string T]).run Tryd.prog W2 = .ok (goInt T.size) (W2.setCells (w.heap.size + 1 + 1) p (T.data.toList.map fun x => Value.int .u8 (x.toNat : Int))) := by
        intro W2 hb2
        have h3 := hL3.below hb2 (by have := b7.lt; omega)
        exact run_copy_string W2 51 9 3 5 _ p _ _ T Tryd.underlying51 (fun _ => by kernel_rfl) (by omega) (fun j hj => by rw [(h3 (p + j) (by omega)).1]; rfl) (fun j hj => (h3 (p + j) (by omega)).2)
      have HR := Lib.hid hr; clear hr
      have hmx : Tryd.prog.follows .mixedOrders = true := by kernel_rfl
      gi_region_with_o (refine ⟨trivial, ?_⟩; gi_at_call 14; refine (CallsIn.inRound l (callsIn_wide.2 (CT.out _))).mono ?_; rintro e W2 ⟨rfl, hb2⟩; have hb3 := (Below.refl W.heap.size W).drew.trans hb2; have hr2 := HR.out W2 hb3; have c72 := (hb3.cell (p := ⟨w.heap.size + 1 + 1 + 1, 0, none⟩) (lt_of_cell c7)).trans c7)
      all_goals gi_wp2
      all_goals
        obtain ⟨q1, q2, q3⟩ := body_end hb3 (w.heap.size + 1 + 1) p (T.data.toList.map fun x => Value.int .u8 (x.toNat : Int))
        have z4 := b4.lt
        have z5 := b5.lt
        have z7 := b7.lt
        have zW := HB.out.size
        refine ⟨q1, fun c hc => ?_, ⟨(q2 _ z4 (by omega)).trans b4, (q2 _ z5 (by omega)).trans b5, (q2 _ z7 (by omega)).trans b7, putL L p T.data.toList, ?_, HL.out, RowB.put (hL3.below hb3 (by omega)) p T.data.toList ?_, by have := q1.size; omega⟩, HB.out.trans (q3 _ (by omega) (by omega))⟩
        · simp only [List.mem_cons, List.not_mem_nil, or_false] at hc
          rcases hc with rfl | rfl | rfl | rfl
          · exact q2 _ (by omega) (by omega)
          · exact q2 _ (by omega) (by omega)
          · exact q2 _ (by omega) (by omega)
          · exact q2 _ (by omega) (by omega)
        · rw [putL_len _ _ _ (by rw [← Lib.size_eq]; omega)]; exact hL1
        · rw [← Lib.size_eq]; omega
  case done =>
    rintro D xs W hD rfl ⟨⟨b4, b5, b7, L, hL1, hL2, hL3, _⟩, hB⟩ hK
    have hLe := hL2 (by simp)
    rw [List.length_range, rowL_end] at hLe
    have c7 := b7.cell
    have hcv := run_convert_bytes_back (P := Tryd.prog) W 51 9 5 ⟨w.heap.size + 1 + 1, 0, none⟩ cap L Tryd.underlying51 Tryd.underlying5 Tryd.underlying9 (fun j hj => by
      rw [Addr.add_lit, Nat.zero_add, (hL3 j hj).1]
      simp [List.getD_eq_getElem?_getD, hj])
    rw [hL1] at hcv
    have HB := Lib.hid hB; clear hB hL2
    have HSZ := Lib.hid hsz
    have HLe := Lib.hid hLe; clear hLe hL1 hL3 hb0 hrow0 x4 x5 x7 xa xb hsz
    gi_wp2
    refine ⟨by simp, .inl ⟨_, _, rfl, run_takeDeferred hK, ?_⟩⟩
    exact ⟨_, results_tmp rfl _ _ _, by rw [recB, ← HLe.out]; rfl, HB.out.trans (belowK_b (w := w) (Nat.le_refl _) W D _ _ (by have := HSZ.out; omega) hK rfl rfl)⟩
  case stop =>
    rintro D c pre W _ _ h _
    exact h.elim
end Go.Proofs.YtaemijgfngdjlaaDoor
