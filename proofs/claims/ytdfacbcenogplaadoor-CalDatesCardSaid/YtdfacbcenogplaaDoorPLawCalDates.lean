/- The law thresherlaw13.CalDates, every time has the date that the document says, and every date, whatever its numbers, the time, whatever the input: its row and its card. -/
import Derived.Test.YtdfacbcenogplaaDoorPCalV
import Derived.Test.YtdfacbcenogplaaDoorPFmtO
import Derived.Test.YtdfacbcenogplaaDoorCards
import Derived.Test.YtdfacbcenogplaaDoorTie
import Derived.WalkKit
import Derived.ProofKit
import Derived.OpenShut
import Derived.Deep.DeepHandedRow
import Derived.Deep.DeepWitnessRowRef
import Derived.Lib.LaidIn
import Derived.Lib.LaidU8
import Derived.Lib.SmallJoins
import Derived.PinnedBridge
import Derived.ShutString
import Derived.SizedLaws
import Derived.Lay
import Derived.Test.YtdfacbcenogplaaDoorCa1
import Derived.Test.YtdfacbcenogplaaDoorCa2
import Derived.Test.YtdfacbcenogplaaDoorCa3
namespace Go.Proofs.YtdfacbcenogplaaDoor.lawCalDates
open Go.ChangeShapes Go.WideShapes Go.ChangeAt Go.RowKit Go.Joins
open Go.ChangeMaps (open_string shut_string)

/-- 'There is an input that fits', of a world whose shape is told. -/
theorem witness_row_shaped {H : Type} {enc : TypeId × Value → H} {C : Checked} {os : Os} {f : FuncId} {fn : Func} {s : OpenSpec} {conds : List PathCond} {apart : Bool} {laid : List (String × DataW Unit)} (modest : Bool) (w0 : World) (args : Array Value) (hos : w0.os = os)
    (hsh : (w0.forCall (fun _ _ => 0) ⟨#[], args, []⟩).Shaped C.prog)
    (hok : Input.okWideB C.prog (w0.forCall (fun _ _ => 0) ⟨#[], args, []⟩) f ⟨#[], args, []⟩ = true)
    (hrow : s.preRow enc C.prog fn conds apart laid (w0.forCall (fun _ _ => 0) ⟨#[], args, []⟩).memory args) :
    ∃ (w : World) (tape : Tape) (i : Input), w.os = os ∧ (w.forCall tape i).Shaped C.prog ∧ i.vars = [] ∧ Input.okWide C.prog (w.forCall tape i) .any w.heap.size f i ∧
      s.preRow enc C.prog fn conds apart laid (w.forCall tape i).memory i.args ∧ ({ modest := modest } : Assume).holds C.prog (lone (Frame.enter C.prog f i.args .normal) [] (w.forCall tape i)) :=
  ⟨w0, fun _ _ => 0, ⟨#[], args, []⟩, hos, hsh, (Input.okWide_of_okWideB (base := 0) hok).1, (Input.okWide_of_okWideB hok).2, hrow, by
    simp only [Assume.holds]
    exact ⟨by simp, by simp, fun _ => Modest.zero, by simp, by simp⟩⟩
theorem own : ownKnob Tryd.prog.godebug = none := by kernel_rfl
/-- A WORLD FOR THE WITNESS: the settled one, all listed tables laid. -/
noncomputable def laidWorld (os : Os) : World := World.laidAll Tryd.prog os Rows.calDatesRow.laid
theorem laid_met (os : Os) : laidMet Tryd.prog Rows.calDatesRow.laid ((laidWorld os).forCall (fun _ _ => 0) ⟨#[], #[.int .i64 0, .agg #[.int .i64 0, .int .i64 0, .int .i64 0, .int .i64 0, .int .i64 0, .int .i64 0, .int .i64 0, .int .i64 0]], []⟩).memory :=
  laidMet_laidAll _ (by kernel_rfl) (by kernel_rfl)
theorem reads (os : Os) {H : Type} (enc : TypeId × Value → H) : ∃ places, DataW.whole enc Tryd.prog ((laidWorld os).forCall (fun _ _ => 0) ⟨#[], #[.int .i64 0, .agg #[.int .i64 0, .int .i64 0, .int .i64 0, .int .i64 0, .int .i64 0, .int .i64 0, .int .i64 0, .int .i64 0]], []⟩).memory Tryd.f5.params.toList Rows.calDatesSpec.vars false (#[Value.int .i64 0, .agg #[.int .i64 0, .int .i64 0, .int .i64 0, .int .i64 0, .int .i64 0, .int .i64 0, .int .i64 0, .int .i64 0]]).toList 8 = some ([.lit (.int .i64 0), .agg [.lit (.int .i64 0), .lit (.int .i64 0), .lit (.int .i64 0), .lit (.int .i64 0), .lit (.int .i64 0), .lit (.int .i64 0), .lit (.int .i64 0), .lit (.int .i64 0)]], [], places) :=
  ⟨[], by kernel_rfl⟩

set_option maxRecDepth 100000 in
set_option maxHeartbeats 2000000 in
theorem lifted (os : Os) (started : os.Started) (H : Type) (enc : TypeId × Value → H) (F : Stop.Interp) :
    ReturnsInHanded {} Tryd.checked os 5 .any ((OpenSpec.ofChange Rows.calDatesSpec).preRow enc Tryd.prog Tryd.f5 Rows.calDatesRow.domain false Rows.calDatesRow.laid) (((OpenSpec.ofChange Rows.calDatesSpec).at F).post enc Tryd.prog Tryd.f5 false true false false) := by
  obtain ⟨places, hx⟩ := reads os enc
  refine returnsInHanded_of_row (C := Tryd.checked) (s := OpenSpec.ofChange Rows.calDatesSpec) own started (by kernel_rfl) Tryd.func5
    (witness_row_shaped (enc := enc) (C := Tryd.checked) false (laidWorld os) #[.int .i64 0, .agg #[.int .i64 0, .int .i64 0, .int .i64 0, .int .i64 0, .int .i64 0, .int .i64 0, .int .i64 0, .int .i64 0]] (World.laidAll_os _ _ _) (World.shaped_of_ZipB (by kernel_rfl) (by kernel_rfl)) (by kernel_rfl)
      (OpenSpec.preRow_of_cond 8 hx (by kernel_rfl) (fun k hk => by cases hk) (by kernel_rfl) (laid_met os))) ?_
  intro W base args ds gs before hval0 hW _ _ _ hL _ _
  have hval : ∀ (j : Nat) t v, Tryd.f5.params[j]? = some t → args[j]? = some v → Value.okWide Tryd.prog W .any base t v := hval0
  have hW' := hW
  obtain ⟨p, q, hA0, hV0, rfl, _, _⟩ := hW
  have hA : DataW.TrodAll enc Tryd.prog W 0 (fun _ => true) true Tryd.f5.params.toList args.toList ds p := hA0
  rw [Tryd.params5] at hA hval
  obtain ⟨v0, vs0, d0, ds0, p0, q0, hargs, rfl, rfl, h0, r0⟩ := trodAll_cons hA
  obtain ⟨v1, vs1, d1, ds1, p1, q1, rfl, rfl, rfl, h1, r1⟩ := trodAll_cons r0
  obtain ⟨rfl, rfl, rfl⟩ := trodAll_nil r1
  obtain rfl : args = #[v0, v1] := by cases args; simp_all
  obtain ⟨rfl, rfl⟩ := trodVars_none hV0
  obtain ⟨t, rfl, rfl, rfl, wt⟩ := open_int Tryd.underlying3 (hval 0 _ v0 rfl rfl) h0
  obtain ⟨c1_0, c1_1, c1_2, c1_3, c1_4, c1_5, c1_6, c1_7, y1_0, y1_1, y1_2, y1_3, y1_4, y1_5, y1_6, y1_7, m1, rfl, rfl, rfl, hy1_0, hy1_1, hy1_2, hy1_3, hy1_4, hy1_5, hy1_6, hy1_7⟩ := open_agg8 Tryd.underlying35 (by kernel_rfl) (by kernel_rfl) (hval 1 _ v1 rfl rfl) h1
  obtain ⟨dy, e1_0, rfl, wdy⟩ := DataW.trod_int Tryd.underlying3 hy1_0
  obtain rfl : c1_0 = .int .i64 dy := by simpa using e1_0
  obtain ⟨dm, e1_1, rfl, wdm⟩ := DataW.trod_int Tryd.underlying3 hy1_1
  obtain rfl : c1_1 = .int .i64 dm := by simpa using e1_1
  obtain ⟨dd, e1_2, rfl, wdd⟩ := DataW.trod_int Tryd.underlying3 hy1_2
  obtain rfl : c1_2 = .int .i64 dd := by simpa using e1_2
  obtain ⟨dh, e1_3, rfl, wdh⟩ := DataW.trod_int Tryd.underlying3 hy1_3
  obtain rfl : c1_3 = .int .i64 dh := by simpa using e1_3
  obtain ⟨dn, e1_4, rfl, wdn⟩ := DataW.trod_int Tryd.underlying3 hy1_4
  obtain rfl : c1_4 = .int .i64 dn := by simpa using e1_4
  obtain ⟨ds, e1_5, rfl, wds⟩ := DataW.trod_int Tryd.underlying3 hy1_5
  obtain rfl : c1_5 = .int .i64 ds := by simpa using e1_5
  obtain ⟨dw, e1_6, rfl, wdw⟩ := DataW.trod_int Tryd.underlying3 hy1_6
  obtain rfl : c1_6 = .int .i64 dw := by simpa using e1_6
  obtain ⟨dj, e1_7, rfl, wdj⟩ := DataW.trod_int Tryd.underlying3 hy1_7
  obtain rfl : c1_7 = .int .i64 dj := by simpa using e1_7
  clear hA0 hval0
  simp only [List.append_nil] at hW'
  refine (calDates_any t dy dm dd dh dn ds dw dj W (calmem_of hL)).mono ?_
  rintro e W' ⟨rfl, bel⟩
  refine ⟨_, rfl, _, _, _, [], [], [], hW', ?_, ?_, ?_, bel.frame _, fun h => by cases h⟩
  · exact trodAll_mk1 (shut_bool Tryd.underlying4 _)
  · exact trodAll_cons_mk (shut_int Tryd.underlying3 wt) (trodAll_cons_mk (shut_agg8 (y0 := (.lit (.int .i64 dy), [])) (y1 := (.lit (.int .i64 dm), [])) (y2 := (.lit (.int .i64 dd), [])) (y3 := (.lit (.int .i64 dh), [])) (y4 := (.lit (.int .i64 dn), [])) (y5 := (.lit (.int .i64 ds), [])) (y6 := (.lit (.int .i64 dw), [])) (y7 := (.lit (.int .i64 dj), [])) Tryd.underlying35 (by kernel_rfl) (by kernel_rfl) ⟨1, by simp [DataW.trod, Tryd.underlying3, wdy]⟩ ⟨1, by simp [DataW.trod, Tryd.underlying3, wdm]⟩ ⟨1, by simp [DataW.trod, Tryd.underlying3, wdd]⟩ ⟨1, by simp [DataW.trod, Tryd.underlying3, wdh]⟩ ⟨1, by simp [DataW.trod, Tryd.underlying3, wdn]⟩ ⟨1, by simp [DataW.trod, Tryd.underlying3, wds]⟩ ⟨1, by simp [DataW.trod, Tryd.underlying3, wdw]⟩ ⟨1, by simp [DataW.trod, Tryd.underlying3, wdj]⟩) trodAll_mk0)
  · rfl

theorem named_fact : Tryd.checked.prog.funcNamed Rows.calDatesRow.func = some 5 := by kernel_rfl
theorem closed_facts : joinedFacts Tryd.checked.prog 5 Tryd.f5 (OpenSpec.ofChange Rows.calDatesSpec).bare Rows.calDatesRow = true := by kernel_rfl
theorem said : Rows.CalDatesSaid :=
  OpenClaim.holds_of_cond 5 Tryd.f5 rfl rfl rfl rfl rfl rfl rfl ⟨rfl, rfl, rfl, rfl, rfl⟩ rfl rfl rfl rfl rfl named_fact Tryd.func5 closed_facts
    (of_decide_eq_true (by kernel_rfl)) (by unfold Func.isWrapper; rw [if_neg (of_decide_eq_false (by kernel_rfl))]; exact ⟨rfl, rfl⟩)
    (fun os started H enc _ F => by rw [OpenClaim.pre_eq_preRow]; exact lifted os started H enc F)
theorem plain (f : FuncId) (fn : Func) (hf : Tryd.pinned.checked.prog.funcNamed "thresher/thresherlaw13.CalDates" = some f) (hfn : Tryd.pinned.checked.prog.funcs[f]? = some fn) :
    true = Tryd.pinned.checked.prog.looks [] ∧ ∀ (j : Nat) t, fn.params[j]? = some t → Tryd.pinned.checked.prog.wantsStandIn t = false := by
  obtain rfl : f = 5 := Option.some.inj ((show Tryd.prog.funcNamed "thresher/thresherlaw13.CalDates" = some 5 by kernel_rfl).symm.trans hf) |>.symm
  obtain rfl : fn = Tryd.f5 := (Option.some.inj (Tryd.func5.symm.trans hfn)).symm
  refine ⟨by kernel_rfl, fun j t ht => ?_⟩
  rw [Tryd.params5] at ht
  have hm := Array.mem_of_getElem? ht
  have hall : ([3, 35].all fun u => !Tryd.prog.wantsStandIn u) = true := by kernel_rfl
  have hm2 : t ∈ [3, 35] := by simp at hm ⊢; omega
  exact (show Tryd.prog.wantsStandIn t = false by simpa using List.all_eq_true.1 hall t hm2)
/-- THE CARD. -/
theorem card : Rows.CalDatesCardSaid :=
  Claim7.holds_tied_plain_at .later [] _ _ _ _ said (fun _ h => by cases h) (by kernel_rfl) (fun _ h => by cases h) calDates_row_tie rfl ⟨rfl, rfl⟩ (by kernel_rfl) rfl plain (by kernel_rfl)
end Go.Proofs.YtdfacbcenogplaaDoor.lawCalDates
