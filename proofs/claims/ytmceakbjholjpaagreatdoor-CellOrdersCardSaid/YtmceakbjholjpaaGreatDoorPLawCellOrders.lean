/- The law thresherlaw06.CellOrders, of any two values the comparison the other way round is the opposite, and of three numbers, or three strings, it goes on, whatever the input: its row and its card. -/
import Derived.Test.YtmceakbjholjpaaGreatDoorPFacCellOrdersA
import Derived.Test.YtmceakbjholjpaaGreatDoorPFacCellOrdersB
import Derived.Test.YtmceakbjholjpaaGreatDoorPFacCellOrdersC
import Derived.Test.YtmceakbjholjpaaGreatDoorCards
import Derived.Test.YtmceakbjholjpaaGreatDoorTie
import Derived.WalkKit
import Derived.ProofKit
import Derived.OpenShut
import Derived.Deep.DeepHandedRow
import Derived.Deep.DeepWitnessRowRef
import Derived.Lib.LaidIn
import Derived.Lib.LaidU8
import Derived.Lib.SmallJoins
import Derived.PinnedBridge
import Derived.ShutString
import Derived.SizedLaws
import Derived.Lay
import Derived.Test.YtmceakbjholjpaaGreatDoorQco10
namespace Go.Proofs.YtmceakbjholjpaaGreatDoor.lawCellOrders
open Go.ChangeShapes Go.WideShapes Go.ChangeAt Go.RowKit Go.Joins
open Go.ChangeMaps (open_string shut_string)

/-- 'There is an input that fits', of a world whose shape is told. -/
theorem witness_row_shaped {H : Type} {enc : TypeId × Value → H} {C : Checked} {os : Os} {f : FuncId} {fn : Func} {s : OpenSpec} {conds : List PathCond} {apart : Bool} {laid : List (String × DataW Unit)} (modest : Bool) (w0 : World) (args : Array Value) (hos : w0.os = os)
    (hsh : (w0.forCall (fun _ _ => 0) ⟨#[], args, []⟩).Shaped C.prog)
    (hok : Input.okWideB C.prog (w0.forCall (fun _ _ => 0) ⟨#[], args, []⟩) f ⟨#[], args, []⟩ = true)
    (hrow : s.preRow enc C.prog fn conds apart laid (w0.forCall (fun _ _ => 0) ⟨#[], args, []⟩).memory args) :
    ∃ (w : World) (tape : Tape) (i : Input), w.os = os ∧ (w.forCall tape i).Shaped C.prog ∧ i.vars = [] ∧ Input.okWide C.prog (w.forCall tape i) .any w.heap.size f i ∧
      s.preRow enc C.prog fn conds apart laid (w.forCall tape i).memory i.args ∧ ({ modest := modest } : Assume).holds C.prog (lone (Frame.enter C.prog f i.args .normal) [] (w.forCall tape i)) :=
  ⟨w0, fun _ _ => 0, ⟨#[], args, []⟩, hos, hsh, (Input.okWide_of_okWideB (base := 0) hok).1, (Input.okWide_of_okWideB hok).2, hrow, by
    simp only [Assume.holds]
    exact ⟨by simp, by simp, fun _ => Modest.zero, by simp, by simp⟩⟩
theorem own : ownKnob Tryz.prog.godebug = none := by kernel_rfl
/-- A WORLD FOR THE WITNESS: the settled one, all listed tables laid. -/
noncomputable def laidWorld (os : Os) : World := World.laidAll Tryz.prog os Rows.cellOrdersRow.laid
theorem laid_met (os : Os) : laidMet Tryz.prog Rows.cellOrdersRow.laid ((laidWorld os).forCall (fun _ _ => 0) ⟨#[], #[.agg #[.int .i64 0, .int .u64 0, .string ⟨#[]⟩], .agg #[.int .i64 0, .int .u64 0, .string ⟨#[]⟩], .agg #[.int .i64 0, .int .u64 0, .string ⟨#[]⟩]], []⟩).memory :=
  laidMet_laidAll _ (by kernel_rfl) (by kernel_rfl)
theorem laid_tail {P : Program} {x : String × DataW Unit} {l : List (String × DataW Unit)} {W : World} (h : laidMet P (x :: l) W) : laidMet P l W := by
  obtain ⟨ps, h1, h2, h3⟩ := h
  obtain ⟨n, d⟩ := x
  obtain ⟨g, t, cs, fuel, p, q, _, _, _, _, h4, rfl⟩ := h1
  exact ⟨q, h4, (List.nodup_append.1 h2).2.1, fun b off hp => h3 b off (List.mem_append_right _ hp)⟩
theorem tab_is : (Rows.laid_internal_strconv_uint64pow10 : DataW Unit) = Lib.tabData .u64 Lib.pow10Tab := by rfl
/-- THE TABLE OF POWERS OF TEN. -/
theorem powtab {W : World} (hL : laidMetH Tryz.prog Rows.cellOrdersRow.laid W) : PowTab W := by
  have h : laidMet Tryz.prog Rows.cellOrdersRow.laid W := hL
  have h2 := laid_tail (laid_tail (h))
  exact Lib.tabIs_of_head (g := 3) (t := 274) (e := 38) (n := 20) (by kernel_rfl) (by kernel_rfl) (by kernel_rfl) (by kernel_rfl) (by kernel_rfl) (by kernel_rfl) (show laidMet Tryz.prog (("internal/strconv.uint64pow10", Lib.tabData .u64 Lib.pow10Tab) :: _) W from tab_is ▸ h2)
theorem reads (os : Os) {H : Type} (enc : TypeId × Value → H) : ∃ places, DataW.whole enc Tryz.prog ((laidWorld os).forCall (fun _ _ => 0) ⟨#[], #[.agg #[.int .i64 0, .int .u64 0, .string ⟨#[]⟩], .agg #[.int .i64 0, .int .u64 0, .string ⟨#[]⟩], .agg #[.int .i64 0, .int .u64 0, .string ⟨#[]⟩]], []⟩).memory Tryz.f7.params.toList Rows.cellOrdersSpec.vars false (#[Value.agg #[.int .i64 0, .int .u64 0, .string ⟨#[]⟩], .agg #[.int .i64 0, .int .u64 0, .string ⟨#[]⟩], .agg #[.int .i64 0, .int .u64 0, .string ⟨#[]⟩]]).toList 8 = some ([.agg [.lit (.int .i64 0), .lit (.int .u64 0), .lit (.string [])], .agg [.lit (.int .i64 0), .lit (.int .u64 0), .lit (.string [])], .agg [.lit (.int .i64 0), .lit (.int .u64 0), .lit (.string [])]], [], places) :=
  ⟨[], by kernel_rfl⟩

set_option maxRecDepth 100000 in
set_option maxHeartbeats 2000000 in
theorem lifted (os : Os) (started : os.Started) (H : Type) (enc : TypeId × Value → H) (F : Stop.Interp) :
    ReturnsInHanded {} Tryz.checked os 7 .any ((OpenSpec.ofChange Rows.cellOrdersSpec).preRow enc Tryz.prog Tryz.f7 Rows.cellOrdersRow.domain false Rows.cellOrdersRow.laid) (((OpenSpec.ofChange Rows.cellOrdersSpec).at F).post enc Tryz.prog Tryz.f7 false true false false) := by
  obtain ⟨places, hx⟩ := reads os enc
  refine returnsInHanded_of_row (C := Tryz.checked) (s := OpenSpec.ofChange Rows.cellOrdersSpec) own started (by kernel_rfl) Tryz.func7
    (witness_row_shaped (enc := enc) (C := Tryz.checked) false (laidWorld os) #[.agg #[.int .i64 0, .int .u64 0, .string ⟨#[]⟩], .agg #[.int .i64 0, .int .u64 0, .string ⟨#[]⟩], .agg #[.int .i64 0, .int .u64 0, .string ⟨#[]⟩]] (World.laidAll_os _ _ _) (World.shaped_of_ZipB (by kernel_rfl) (by kernel_rfl)) (by kernel_rfl)
      (OpenSpec.preRow_of_cond 8 hx (by kernel_rfl) (fun k hk => by cases hk) (by kernel_rfl) (laid_met os))) ?_
  intro W base args ds gs before hval0 hW _ _ hwt hL _ _
  have hval : ∀ (j : Nat) t v, Tryz.f7.params[j]? = some t → args[j]? = some v → Value.okWide Tryz.prog W .any base t v := hval0
  have hW' := hW
  obtain ⟨p, q, hA0, hV0, rfl, _, _⟩ := hW
  have hA : DataW.TrodAll enc Tryz.prog W 0 (fun _ => true) true Tryz.f7.params.toList args.toList ds p := hA0
  rw [Tryz.params7] at hA hval
  obtain ⟨v0, vs0, d0, ds0, p0, q0, hargs, rfl, rfl, h0, r0⟩ := trodAll_cons hA
  obtain ⟨v1, vs1, d1, ds1, p1, q1, rfl, rfl, rfl, h1, r1⟩ := trodAll_cons r0
  obtain ⟨v2, vs2, d2, ds2, p2, q2, rfl, rfl, rfl, h2, r2⟩ := trodAll_cons r1
  obtain ⟨rfl, rfl, rfl⟩ := trodAll_nil r2
  obtain rfl : args = #[v0, v1, v2] := by cases args; simp_all
  obtain ⟨rfl, rfl⟩ := trodVars_none hV0
  obtain ⟨c0_0, c0_1, c0_2, y0_0, y0_1, y0_2, m0, rfl, rfl, rfl, hy0_0, hy0_1, hy0_2⟩ := open_agg3 Tryz.underlying49 (by kernel_rfl) (by kernel_rfl) (hval 0 _ v0 rfl rfl) h0
  obtain ⟨ka, e0_0, rfl, wka⟩ := DataW.trod_int Tryz.underlying3 hy0_0
  obtain rfl : c0_0 = .int .i64 ka := by simpa using e0_0
  obtain ⟨na, e0_1, rfl, wna⟩ := DataW.trod_int Tryz.underlying38 hy0_1
  obtain rfl : c0_1 = .int .u64 na := by simpa using e0_1
  obtain ⟨sa, e0_2, rfl, wsa⟩ := DataW.trod_string Tryz.underlying9 hy0_2
  obtain rfl : c0_2 = .string sa := by simpa using e0_2
  obtain ⟨c1_0, c1_1, c1_2, y1_0, y1_1, y1_2, m1, rfl, rfl, rfl, hy1_0, hy1_1, hy1_2⟩ := open_agg3 Tryz.underlying49 (by kernel_rfl) (by kernel_rfl) (hval 1 _ v1 rfl rfl) h1
  obtain ⟨kb, e1_0, rfl, wkb⟩ := DataW.trod_int Tryz.underlying3 hy1_0
  obtain rfl : c1_0 = .int .i64 kb := by simpa using e1_0
  obtain ⟨nb, e1_1, rfl, wnb⟩ := DataW.trod_int Tryz.underlying38 hy1_1
  obtain rfl : c1_1 = .int .u64 nb := by simpa using e1_1
  obtain ⟨sb, e1_2, rfl, wsb⟩ := DataW.trod_string Tryz.underlying9 hy1_2
  obtain rfl : c1_2 = .string sb := by simpa using e1_2
  obtain ⟨c2_0, c2_1, c2_2, y2_0, y2_1, y2_2, m2, rfl, rfl, rfl, hy2_0, hy2_1, hy2_2⟩ := open_agg3 Tryz.underlying49 (by kernel_rfl) (by kernel_rfl) (hval 2 _ v2 rfl rfl) h2
  obtain ⟨kc, e2_0, rfl, wkc⟩ := DataW.trod_int Tryz.underlying3 hy2_0
  obtain rfl : c2_0 = .int .i64 kc := by simpa using e2_0
  obtain ⟨nc, e2_1, rfl, wnc⟩ := DataW.trod_int Tryz.underlying38 hy2_1
  obtain rfl : c2_1 = .int .u64 nc := by simpa using e2_1
  obtain ⟨sc, e2_2, rfl, wsc⟩ := DataW.trod_string Tryz.underlying9 hy2_2
  obtain rfl : c2_2 = .string sc := by simpa using e2_2
  clear hA0 hval0
  simp only [List.append_nil] at hW'
  have hP := powtab hL
  have rsa : sa.size ≤ 140737488351232 := by
    have h2 : sa.data.toList.length ≤ reachBytes := of_decide_eq_true (List.all_eq_true.1 hwt _ (by simp [Tryz.params7, DataW.weights, DataW.weightsEach, (show Tryz.checked.prog.underlying 49 = _ from Tryz.underlying49)]))
    rw [Lib.size_eq]; exact h2
  have rsb : sb.size ≤ 140737488351232 := by
    have h2 : sb.data.toList.length ≤ reachBytes := of_decide_eq_true (List.all_eq_true.1 hwt _ (by simp [Tryz.params7, DataW.weights, DataW.weightsEach, (show Tryz.checked.prog.underlying 49 = _ from Tryz.underlying49)]))
    rw [Lib.size_eq]; exact h2
  have rsc : sc.size ≤ 140737488351232 := by
    have h2 : sc.data.toList.length ≤ reachBytes := of_decide_eq_true (List.all_eq_true.1 hwt _ (by simp [Tryz.params7, DataW.weights, DataW.weightsEach, (show Tryz.checked.prog.underlying 49 = _ from Tryz.underlying49)]))
    rw [Lib.size_eq]; exact h2
  clear hwt
  refine (cellOrders_any ka kb kc na nb nc sa sb sc W hP rsa rsb rsc (by have := bounds_i64 wka; omega) (by have := bounds_i64 wka; omega) (by have := bounds_i64 wkb; omega) (by have := bounds_i64 wkb; omega) (by have := bounds_i64 wkc; omega) (by have := bounds_i64 wkc; omega) (by have := bounds_u64 wna; omega) (by have := bounds_u64 wna; omega) (by have := bounds_u64 wnb; omega) (by have := bounds_u64 wnb; omega) (by have := bounds_u64 wnc; omega) (by have := bounds_u64 wnc; omega)).mono ?_
  rintro e W' ⟨rfl, bel⟩
  refine ⟨_, rfl, _, _, _, [], [], [], hW', ?_, ?_, ?_, bel.frame _, fun h => by cases h⟩
  · exact trodAll_mk1 (shut_bool Tryz.underlying4 _)
  · exact trodAll_cons_mk (shut_agg3 (y0 := (.lit (.int .i64 ka), [])) (y1 := (.lit (.int .u64 na), [])) (y2 := (.lit (.string sa.data.toList), [])) Tryz.underlying49 (by kernel_rfl) (by kernel_rfl) ⟨1, by simp [DataW.trod, Tryz.underlying3, wka]⟩ ⟨1, by simp [DataW.trod, Tryz.underlying38, wna]⟩ ⟨1, by simp [DataW.trod, Tryz.underlying9, wsa]⟩) (trodAll_cons_mk (shut_agg3 (y0 := (.lit (.int .i64 kb), [])) (y1 := (.lit (.int .u64 nb), [])) (y2 := (.lit (.string sb.data.toList), [])) Tryz.underlying49 (by kernel_rfl) (by kernel_rfl) ⟨1, by simp [DataW.trod, Tryz.underlying3, wkb]⟩ ⟨1, by simp [DataW.trod, Tryz.underlying38, wnb]⟩ ⟨1, by simp [DataW.trod, Tryz.underlying9, wsb]⟩) (trodAll_cons_mk (shut_agg3 (y0 := (.lit (.int .i64 kc), [])) (y1 := (.lit (.int .u64 nc), [])) (y2 := (.lit (.string sc.data.toList), [])) Tryz.underlying49 (by kernel_rfl) (by kernel_rfl) ⟨1, by simp [DataW.trod, Tryz.underlying3, wkc]⟩ ⟨1, by simp [DataW.trod, Tryz.underlying38, wnc]⟩ ⟨1, by simp [DataW.trod, Tryz.underlying9, wsc]⟩) trodAll_mk0))
  · rfl

theorem closed_facts : joinedFacts Tryz.checked.prog 7 Tryz.f7 (OpenSpec.ofChange Rows.cellOrdersSpec).bare Rows.cellOrdersRow = true := fact_rest fact_1 fact_2 fact_3 fact_4
theorem said : Rows.CellOrdersSaid :=
  OpenClaim.holds_of_cond 7 Tryz.f7 rfl rfl rfl rfl rfl rfl rfl ⟨rfl, rfl, rfl, rfl, rfl⟩ rfl rfl rfl rfl rfl named_fact Tryz.func7 closed_facts
    (of_decide_eq_true (by kernel_rfl)) (by unfold Func.isWrapper; rw [if_neg (of_decide_eq_false (by kernel_rfl))]; exact ⟨rfl, rfl⟩)
    (fun os started H enc _ F => by rw [OpenClaim.pre_eq_preRow]; exact lifted os started H enc F)
theorem plain (f : FuncId) (fn : Func) (hf : Tryz.pinned.checked.prog.funcNamed "thresher/thresherlaw06.CellOrders" = some f) (hfn : Tryz.pinned.checked.prog.funcs[f]? = some fn) :
    true = Tryz.pinned.checked.prog.looks [] ∧ ∀ (j : Nat) t, fn.params[j]? = some t → Tryz.pinned.checked.prog.wantsStandIn t = false := by
  obtain rfl : f = 7 := Option.some.inj ((show Tryz.prog.funcNamed "thresher/thresherlaw06.CellOrders" = some 7 by kernel_rfl).symm.trans hf) |>.symm
  obtain rfl : fn = Tryz.f7 := (Option.some.inj (Tryz.func7.symm.trans hfn)).symm
  refine ⟨by kernel_rfl, fun j t ht => ?_⟩
  rw [Tryz.params7] at ht
  have hm := Array.mem_of_getElem? ht
  have hall : ([49].all fun u => !Tryz.prog.wantsStandIn u) = true := by kernel_rfl
  have hm2 : t ∈ [49] := by simp at hm ⊢; omega
  exact (show Tryz.prog.wantsStandIn t = false by simpa using List.all_eq_true.1 hall t hm2)
/-- THE CARD. -/
theorem card : Rows.CellOrdersCardSaid :=
  Claim7.holds_tied_plain_at .later [] _ _ _ _ said (fun _ h => by cases h) (by kernel_rfl) (fun _ h => by cases h) cellOrders_row_tie rfl ⟨rfl, rfl⟩ (by kernel_rfl) rfl plain (by kernel_rfl)
end Go.Proofs.YtmceakbjholjpaaGreatDoor.lawCellOrders
