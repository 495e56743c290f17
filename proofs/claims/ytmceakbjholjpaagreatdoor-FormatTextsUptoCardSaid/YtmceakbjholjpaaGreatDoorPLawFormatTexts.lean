/- The law thresherlaw05.FormatTexts, any string is cut and padded as the definition says, whatever the input of bulk at most 1048576: its row and its card. -/
import Derived.Test.YtmceakbjholjpaaGreatDoorPFacFormatTextsA
import Derived.Test.YtmceakbjholjpaaGreatDoorPFacFormatTextsB
import Derived.Test.YtmceakbjholjpaaGreatDoorPFacFormatTextsC
import Derived.Test.YtmceakbjholjpaaGreatDoorCards
import Derived.Test.YtmceakbjholjpaaGreatDoorTie
import Derived.WalkKit
import Derived.ProofKit
import Derived.OpenShut
import Derived.Deep.DeepHandedRow
import Derived.Deep.DeepWitnessRowRef
import Derived.Lib.LaidIn
import Derived.Lib.LaidU8
import Derived.Lib.SmallJoins
import Derived.PinnedBridge
import Derived.ShutString
import Derived.SizedLaws
import Derived.Lay
import Derived.Test.YtmceakbjholjpaaGreatDoorQft9
namespace Go.Proofs.YtmceakbjholjpaaGreatDoor.lawFormatTexts
open Go.ChangeShapes Go.WideShapes Go.ChangeAt Go.RowKit Go.Joins
open Go.ChangeMaps (open_string shut_string)

/-- 'There is an input that fits', of a world whose shape is told. -/
theorem witness_row_shaped {H : Type} {enc : TypeId × Value → H} {C : Checked} {os : Os} {f : FuncId} {fn : Func} {s : OpenSpec} {conds : List PathCond} {apart : Bool} {laid : List (String × DataW Unit)} (modest : Bool) (w0 : World) (args : Array Value) (hos : w0.os = os)
    (hsh : (w0.forCall (fun _ _ => 0) ⟨#[], args, []⟩).Shaped C.prog)
    (hok : Input.okWideB C.prog (w0.forCall (fun _ _ => 0) ⟨#[], args, []⟩) f ⟨#[], args, []⟩ = true)
    (hrow : s.preRow enc C.prog fn conds apart laid (w0.forCall (fun _ _ => 0) ⟨#[], args, []⟩).memory args) :
    ∃ (w : World) (tape : Tape) (i : Input), w.os = os ∧ (w.forCall tape i).Shaped C.prog ∧ i.vars = [] ∧ Input.okWide C.prog (w.forCall tape i) .any w.heap.size f i ∧
      s.preRow enc C.prog fn conds apart laid (w.forCall tape i).memory i.args ∧ ({ modest := modest } : Assume).holds C.prog (lone (Frame.enter C.prog f i.args .normal) [] (w.forCall tape i)) :=
  ⟨w0, fun _ _ => 0, ⟨#[], args, []⟩, hos, hsh, (Input.okWide_of_okWideB (base := 0) hok).1, (Input.okWide_of_okWideB hok).2, hrow, by
    simp only [Assume.holds]
    exact ⟨by simp, by simp, fun _ => Modest.zero, by simp, by simp⟩⟩
theorem own : ownKnob Tryz.prog.godebug = none := by kernel_rfl
/-- A WORLD FOR THE WITNESS: the settled one, all listed tables laid. -/
noncomputable def laidWorld (os : Os) : World := World.laidAll Tryz.prog os Rows.formatTextsUptoRow.laid
theorem laid_met (os : Os) : laidMet Tryz.prog Rows.formatTextsUptoRow.laid ((laidWorld os).forCall (fun _ _ => 0) ⟨#[], #[.agg #[.bool false, .bool false, .bool false, .bool false, .bool false, .int .i64 0, .int .i64 0, .int .u8 0], .string ⟨#[]⟩, .bool false], []⟩).memory :=
  laidMet_laidAll _ (by kernel_rfl) (by kernel_rfl)
/-- WHAT THE ROW's LIST GIVES: the library's two tables. -/
theorem tabs {W : World} (hL : laidMetH Tryz.prog Rows.formatTextsUptoRow.laid W) : Lib.Utf8Tabs 4 5 W :=
  utf8Tabs_of_reads (ρ := Tryz.lays197_ren) { Tryz.lays197 with } ⟨by kernel_rfl, by kernel_rfl, by kernel_rfl, by kernel_rfl, by kernel_rfl, by kernel_rfl, by kernel_rfl⟩ (by rw [← Pinned.utf8First_eq]; exact Lib.laidMet.reads hL (.tail _ (.tail _ (.tail _ (.tail _ (.tail _ (.head _))))))) (Lib.laidMet.reads hL (.tail _ (.tail _ (.tail _ (.head _)))))
theorem laid_tail {P : Program} {x : String × DataW Unit} {l : List (String × DataW Unit)} {W : World} (h : laidMet P (x :: l) W) : laidMet P l W := by
  obtain ⟨ps, h1, h2, h3⟩ := h
  obtain ⟨n, d⟩ := x
  obtain ⟨g, t, cs, fuel, p, q, _, _, _, _, h4, rfl⟩ := h1
  exact ⟨q, h4, (List.nodup_append.1 h2).2.1, fun b off hp => h3 b off (List.mem_append_right _ hp)⟩
theorem tab_is : (Rows.laid_internal_strconv_uint64pow10 : DataW Unit) = Lib.tabData .u64 Lib.pow10Tab := by rfl
/-- THE TABLE OF POWERS OF TEN. -/
theorem powtab {W : World} (hL : laidMetH Tryz.prog Rows.formatTextsUptoRow.laid W) : PowTab W := by
  have h : laidMet Tryz.prog Rows.formatTextsUptoRow.laid W := hL
  have h2 := laid_tail (laid_tail (h))
  exact Lib.tabIs_of_head (g := 3) (t := 274) (e := 38) (n := 20) (by kernel_rfl) (by kernel_rfl) (by kernel_rfl) (by kernel_rfl) (by kernel_rfl) (by kernel_rfl) (show laidMet Tryz.prog (("internal/strconv.uint64pow10", Lib.tabData .u64 Lib.pow10Tab) :: _) W from tab_is ▸ h2)
theorem reads (os : Os) {H : Type} (enc : TypeId × Value → H) : ∃ places, DataW.whole enc Tryz.prog ((laidWorld os).forCall (fun _ _ => 0) ⟨#[], #[.agg #[.bool false, .bool false, .bool false, .bool false, .bool false, .int .i64 0, .int .i64 0, .int .u8 0], .string ⟨#[]⟩, .bool false], []⟩).memory Tryz.f4.params.toList Rows.formatTextsSpec.vars false (#[Value.agg #[.bool false, .bool false, .bool false, .bool false, .bool false, .int .i64 0, .int .i64 0, .int .u8 0], .string ⟨#[]⟩, .bool false]).toList 8 = some ([.agg [.lit (.bool false), .lit (.bool false), .lit (.bool false), .lit (.bool false), .lit (.bool false), .lit (.int .i64 0), .lit (.int .i64 0), .lit (.int .u8 0)], .lit (.string []), .lit (.bool false)], [], places) :=
  ⟨[], by kernel_rfl⟩

set_option maxRecDepth 100000 in
set_option maxHeartbeats 2000000 in
theorem lifted (os : Os) (started : os.Started) (H : Type) (enc : TypeId × Value → H) (F : Stop.Interp) :
    ReturnsInHanded {} Tryz.checked os 4 .any ((Rows.OpenSpec.upto Rows.formatTextsSpec).preRow enc Tryz.prog Tryz.f4 Rows.formatTextsUptoRow.domain false Rows.formatTextsUptoRow.laid) (((Rows.OpenSpec.upto Rows.formatTextsSpec).at F).post enc Tryz.prog Tryz.f4 false true false false) := by
  obtain ⟨places, hx⟩ := reads os enc
  refine returnsInHanded_of_row (C := Tryz.checked) (s := Rows.OpenSpec.upto Rows.formatTextsSpec) own started (by kernel_rfl) Tryz.func4
    (witness_row_shaped (enc := enc) (C := Tryz.checked) false (laidWorld os) #[.agg #[.bool false, .bool false, .bool false, .bool false, .bool false, .int .i64 0, .int .i64 0, .int .u8 0], .string ⟨#[]⟩, .bool false] (World.laidAll_os _ _ _) (World.shaped_of_ZipB (by kernel_rfl) (by kernel_rfl)) (by kernel_rfl)
      (OpenSpec.preRow_of_cond 8 hx (by kernel_rfl) (fun k hk => by cases hk; kernel_rfl) (by kernel_rfl) (laid_met os))) ?_
  intro W base args ds gs before hval0 hW _ hcond _ hL _ _
  have hval : ∀ (j : Nat) t v, Tryz.f4.params[j]? = some t → args[j]? = some v → Value.okWide Tryz.prog W .any base t v := hval0
  have hW' := hW
  obtain ⟨p, q, hA0, hV0, rfl, _, _⟩ := hW
  have hA : DataW.TrodAll enc Tryz.prog W 0 (fun _ => true) true Tryz.f4.params.toList args.toList ds p := hA0
  rw [Tryz.params4] at hA hval
  obtain ⟨v0, vs0, d0, ds0, p0, q0, hargs, rfl, rfl, h0, r0⟩ := trodAll_cons hA
  obtain ⟨v1, vs1, d1, ds1, p1, q1, rfl, rfl, rfl, h1, r1⟩ := trodAll_cons r0
  obtain ⟨v2, vs2, d2, ds2, p2, q2, rfl, rfl, rfl, h2, r2⟩ := trodAll_cons r1
  obtain ⟨rfl, rfl, rfl⟩ := trodAll_nil r2
  obtain rfl : args = #[v0, v1, v2] := by cases args; simp_all
  obtain ⟨rfl, rfl⟩ := trodVars_none hV0
  obtain ⟨c0_0, c0_1, c0_2, c0_3, c0_4, c0_5, c0_6, c0_7, y0_0, y0_1, y0_2, y0_3, y0_4, y0_5, y0_6, y0_7, m0, rfl, rfl, rfl, hy0_0, hy0_1, hy0_2, hy0_3, hy0_4, hy0_5, hy0_6, hy0_7⟩ := open_agg8 Tryz.underlying24 (by kernel_rfl) (by kernel_rfl) (hval 0 _ v0 rfl rfl) h0
  obtain ⟨m, e0_0, rfl⟩ := DataW.trod_bool Tryz.underlying4 hy0_0
  obtain rfl : c0_0 = .bool m := by simpa using e0_0
  obtain ⟨p, e0_1, rfl⟩ := DataW.trod_bool Tryz.underlying4 hy0_1
  obtain rfl : c0_1 = .bool p := by simpa using e0_1
  obtain ⟨b, e0_2, rfl⟩ := DataW.trod_bool Tryz.underlying4 hy0_2
  obtain rfl : c0_2 = .bool b := by simpa using e0_2
  obtain ⟨a, e0_3, rfl⟩ := DataW.trod_bool Tryz.underlying4 hy0_3
  obtain rfl : c0_3 = .bool a := by simpa using e0_3
  obtain ⟨z, e0_4, rfl⟩ := DataW.trod_bool Tryz.underlying4 hy0_4
  obtain rfl : c0_4 = .bool z := by simpa using e0_4
  obtain ⟨wd, e0_5, rfl, wwd⟩ := DataW.trod_int Tryz.underlying3 hy0_5
  obtain rfl : c0_5 = .int .i64 wd := by simpa using e0_5
  obtain ⟨pr, e0_6, rfl, wpr⟩ := DataW.trod_int Tryz.underlying3 hy0_6
  obtain rfl : c0_6 = .int .i64 pr := by simpa using e0_6
  obtain ⟨c, e0_7, rfl, wc⟩ := DataW.trod_int Tryz.underlying5 hy0_7
  obtain rfl : c0_7 = .int .u8 c := by simpa using e0_7
  obtain ⟨s, rfl, rfl, rfl, ws⟩ := open_string Tryz.underlying9 (hval 1 _ v1 rfl rfl) h1
  obtain ⟨y, rfl, rfl, rfl⟩ := open_bool Tryz.underlying4 (hval 2 _ v2 rfl rfl) h2
  clear hA0 hval0
  simp only [List.append_nil] at hW'
  have hbulk : Rows.uptoBulkAll (H := H) [.agg [.lit (.bool m), .lit (.bool p), .lit (.bool b), .lit (.bool a), .lit (.bool z), .lit (.int .i64 wd), .lit (.int .i64 pr), .lit (.int .u8 c)], .lit (.string s.data.toList), .lit (.bool y)] ≤ 1048576 := of_decide_eq_true (hcond _ rfl)
  simp only [Rows.uptoBulkAll, Rows.uptoBulk] at hbulk
  have hT := tabs hL
  have hP := powtab hL
  refine (formatTexts_any m p b a z y wd pr c s W (by rw [Lib.size_eq]; omega) (bounds_u8 wc).1 (bounds_u8 wc).2 hP hT).mono ?_
  rintro e W' ⟨rfl, bel⟩
  refine ⟨_, rfl, _, _, _, [], [], [], hW', ?_, ?_, ?_, bel.frame _, fun h => by cases h⟩
  · exact trodAll_mk1 (shut_bool Tryz.underlying4 _)
  · exact trodAll_cons_mk (shut_agg8 (y0 := (.lit (.bool m), [])) (y1 := (.lit (.bool p), [])) (y2 := (.lit (.bool b), [])) (y3 := (.lit (.bool a), [])) (y4 := (.lit (.bool z), [])) (y5 := (.lit (.int .i64 wd), [])) (y6 := (.lit (.int .i64 pr), [])) (y7 := (.lit (.int .u8 c), [])) Tryz.underlying24 (by kernel_rfl) (by kernel_rfl) ⟨1, by simp [DataW.trod, Tryz.underlying4]⟩ ⟨1, by simp [DataW.trod, Tryz.underlying4]⟩ ⟨1, by simp [DataW.trod, Tryz.underlying4]⟩ ⟨1, by simp [DataW.trod, Tryz.underlying4]⟩ ⟨1, by simp [DataW.trod, Tryz.underlying4]⟩ ⟨1, by simp [DataW.trod, Tryz.underlying3, wwd]⟩ ⟨1, by simp [DataW.trod, Tryz.underlying3, wpr]⟩ ⟨1, by simp [DataW.trod, Tryz.underlying5, wc]⟩) (trodAll_cons_mk (shut_string Tryz.underlying9 ws) (trodAll_cons_mk (shut_bool Tryz.underlying4 y) trodAll_mk0))
  · rfl

theorem closed_facts : joinedFacts Tryz.checked.prog 4 Tryz.f4 (Rows.OpenSpec.upto Rows.formatTextsSpec).bare Rows.formatTextsUptoRow = true := fact_rest fact_1 fact_2 fact_3 fact_4
theorem said : Rows.FormatTextsUptoSaid :=
  OpenClaim.holds_of_cond 4 Tryz.f4 rfl rfl rfl rfl rfl rfl rfl ⟨rfl, rfl, rfl, rfl, rfl⟩ rfl rfl rfl rfl rfl named_fact Tryz.func4 closed_facts
    (of_decide_eq_true (by kernel_rfl)) (by unfold Func.isWrapper; rw [if_neg (of_decide_eq_false (by kernel_rfl))]; exact ⟨rfl, rfl⟩)
    (fun os started H enc _ F => by rw [OpenClaim.pre_eq_preRow]; exact lifted os started H enc F)
theorem plain (f : FuncId) (fn : Func) (hf : Tryz.pinned.checked.prog.funcNamed "thresher/thresherlaw05.FormatTexts" = some f) (hfn : Tryz.pinned.checked.prog.funcs[f]? = some fn) :
    true = Tryz.pinned.checked.prog.looks [] ∧ ∀ (j : Nat) t, fn.params[j]? = some t → Tryz.pinned.checked.prog.wantsStandIn t = false := by
  obtain rfl : f = 4 := Option.some.inj ((show Tryz.prog.funcNamed "thresher/thresherlaw05.FormatTexts" = some 4 by kernel_rfl).symm.trans hf) |>.symm
  obtain rfl : fn = Tryz.f4 := (Option.some.inj (Tryz.func4.symm.trans hfn)).symm
  refine ⟨by kernel_rfl, fun j t ht => ?_⟩
  rw [Tryz.params4] at ht
  have hm := Array.mem_of_getElem? ht
  have hall : ([24, 9, 4].all fun u => !Tryz.prog.wantsStandIn u) = true := by kernel_rfl
  have hm2 : t ∈ [24, 9, 4] := by simp at hm ⊢; omega
  exact (show Tryz.prog.wantsStandIn t = false by simpa using List.all_eq_true.1 hall t hm2)
/-- THE CARD. -/
theorem card : Rows.FormatTextsUptoCardSaid :=
  Claim7.holds_tied_plain_at .later [] _ _ _ _ said (fun _ h => by cases h) (by kernel_rfl) (fun _ h => by cases h) formatTextsUpto_row_tie rfl ⟨rfl, rfl⟩ (by kernel_rfl) rfl plain (by kernel_rfl)
end Go.Proofs.YtmceakbjholjpaaGreatDoor.lawFormatTexts
