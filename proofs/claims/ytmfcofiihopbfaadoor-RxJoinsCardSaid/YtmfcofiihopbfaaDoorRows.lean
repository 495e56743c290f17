/-
  NARROWER THAN 'FOR EVERY INPUT', by the rows' own cells (each row's printed sentence says how): RxNames: laid · RxJoins: laid · RxLiteral: laid · RxRepeats: laid.
  DERIVED. THE GIVEN ROWS OF THIS SEAT. 4 by the template 'for every input the law returns true; each argument reads behind the call as it read before'; 0 by the template 'total and deterministic' (their statements: YtmfcofiihopbfaaDoorTotals.lean).
  GIVEN WITH THE SEED: the statements are not yours to turn. If you find one false, say at which input.
  Laid BY PROGRAM, IN A SANDBOX (cutbox-rows.mjs): the forced cells as the released guide's own fill.sh prints them over the translation daf2640ac260344d… (all of the seat's roots in one cut). By AI agents, Wed Nov 11 2026. No macro, syntax, notation, axiom, sorry.
-/
import Derived.Test.YtmfcofiihopbfaaDoorChecked
import GoSem.PinnedTables
import GoSem.Claim
import GoSem.ClaimJoined
import GoSem.ClaimMapViews
import Derived.JoinedTies
import Derived.KernelRfl
namespace Go.Proofs.YtmfcofiihopbfaaDoor
/- THE CELL 'sum', in the pinned program and in every row, IS THE sha256 OF THE DUMP (.gsa) THAT YtmfcofiihopbfaaDoorProg.lean LOADS. Nothing in Lean hashes anything: it is a label: what it is worth is what the hold of that sum in a sandbox is worth. -/
noncomputable def Tryd.pinned : Pinned := { name := "ytmfcofiihopbfaadoor", sum := "daf2640ac260344dce67ba989756b367e14463e18568e6a2442c40abd46f7edc", checked := Tryd.checked }
namespace Rows
def none {H : Type} : Left H := { results := [], args := [] }

/- WHAT THE LISTED PACKAGE-LEVEL VARIABLES READ AS WHEN THE CALL BEGINS. Each datum BY PROGRAM (the guide's laid-datum.mjs) off the statement by which the dump's own 'gosem.cut.vars' lays the variable. In a bare row this is a premise. The card (YtmfcofiihopbfaaDoorCards.lean) ties it to the program's text. -/
def laid_unicode_utf8_acceptRanges {H : Type} : DataW H := .agg [.agg [.lit (.int .u8 128), .lit (.int .u8 191)], .agg [.lit (.int .u8 160), .lit (.int .u8 191)], .agg [.lit (.int .u8 128), .lit (.int .u8 159)], .agg [.lit (.int .u8 144), .lit (.int .u8 191)], .agg [.lit (.int .u8 128), .lit (.int .u8 143)], .agg [.lit (.int .u8 0), .lit (.int .u8 0)], .agg [.lit (.int .u8 0), .lit (.int .u8 0)], .agg [.lit (.int .u8 0), .lit (.int .u8 0)], .agg [.lit (.int .u8 0), .lit (.int .u8 0)], .agg [.lit (.int .u8 0), .lit (.int .u8 0)], .agg [.lit (.int .u8 0), .lit (.int .u8 0)], .agg [.lit (.int .u8 0), .lit (.int .u8 0)], .agg [.lit (.int .u8 0), .lit (.int .u8 0)], .agg [.lit (.int .u8 0), .lit (.int .u8 0)], .agg [.lit (.int .u8 0), .lit (.int .u8 0)], .agg [.lit (.int .u8 0), .lit (.int .u8 0)]]
/-- One of Go's own tables, pinned by name: the form's constant. -/
def laid_unicode_utf8_first : DataW Unit := Go.Pinned.utf8First

/-- 'thresherlaw09.RxNames': WHATEVER THE INPUT: true; the input reads as it did. -/
def rxNamesSpec : ChangeSpec := { name := "rxNames", fn := fun _ => fun
  | [] => { results := [.lit (.bool true)], args := [] }
  | _ => none }
def rxNamesRow : OpenClaim := { program := "ytmfcofiihopbfaadoor", sum := "daf2640ac260344dce67ba989756b367e14463e18568e6a2442c40abd46f7edc", func := "thresher/thresherlaw09.RxNames", spec := "rxNames", inPlace := ["internal/bytealg.IndexByteString", "internal/bytealg.IndexString"], unfollowed := true, recurses := true, named := ["unicode/utf8.first", "unicode/utf8.acceptRanges", "internal/bytealg.MaxLen"], apart := false, laid := [("unicode/utf8.acceptRanges", laid_unicode_utf8_acceptRanges), ("unicode/utf8.first", laid_unicode_utf8_first)] }
def RxNamesSaid : Prop := rxNamesRow.holds Tryd.pinned (OpenSpec.ofChange rxNamesSpec)

/-- ITS FALSE NEIGHBOUR: 'it returns false'. Refute it at one input. -/
def rxNamesWrong : ChangeSpec := { name := "rxNames", fn := fun _ => fun
  | [] => { results := [.lit (.bool false)], args := [] }
  | _ => none }
def RxNamesWrongFalsely : Prop := rxNamesRow.holds Tryd.pinned (OpenSpec.ofChange rxNamesWrong)

/-- 'thresherlaw09.RxJoins': WHATEVER THE INPUT: true; the input reads as it did. -/
def rxJoinsSpec : ChangeSpec := { name := "rxJoins", fn := fun _ => fun
  | [d1, d2] => { results := [.lit (.bool true)], args := [d1, d2] }
  | _ => none }
def rxJoinsRow : OpenClaim := { program := "ytmfcofiihopbfaadoor", sum := "daf2640ac260344dce67ba989756b367e14463e18568e6a2442c40abd46f7edc", func := "thresher/thresherlaw09.RxJoins", spec := "rxJoins", inPlace := ["internal/bytealg.IndexByteString", "internal/bytealg.IndexString"], unfollowed := true, recurses := true, named := ["unicode/utf8.first", "unicode/utf8.acceptRanges", "internal/bytealg.MaxLen"], apart := false, laid := [("unicode/utf8.acceptRanges", laid_unicode_utf8_acceptRanges), ("unicode/utf8.first", laid_unicode_utf8_first)] }
def RxJoinsSaid : Prop := rxJoinsRow.holds Tryd.pinned (OpenSpec.ofChange rxJoinsSpec)

/-- ITS FALSE NEIGHBOUR: 'it returns false'. Refute it at one input. -/
def rxJoinsWrong : ChangeSpec := { name := "rxJoins", fn := fun _ => fun
  | [d1, d2] => { results := [.lit (.bool false)], args := [d1, d2] }
  | _ => none }
def RxJoinsWrongFalsely : Prop := rxJoinsRow.holds Tryd.pinned (OpenSpec.ofChange rxJoinsWrong)

/-- 'thresherlaw09.RxLiteral': WHATEVER THE INPUT: true; the input reads as it did. -/
def rxLiteralSpec : ChangeSpec := { name := "rxLiteral", fn := fun _ => fun
  | [d] => { results := [.lit (.bool true)], args := [d] }
  | _ => none }
def rxLiteralRow : OpenClaim := { program := "ytmfcofiihopbfaadoor", sum := "daf2640ac260344dce67ba989756b367e14463e18568e6a2442c40abd46f7edc", func := "thresher/thresherlaw09.RxLiteral", spec := "rxLiteral", inPlace := ["internal/bytealg.IndexByteString", "internal/bytealg.IndexString"], unfollowed := true, recurses := true, named := ["unicode/utf8.first", "unicode/utf8.acceptRanges", "internal/bytealg.MaxLen"], apart := false, laid := [("unicode/utf8.acceptRanges", laid_unicode_utf8_acceptRanges), ("unicode/utf8.first", laid_unicode_utf8_first)] }
def RxLiteralSaid : Prop := rxLiteralRow.holds Tryd.pinned (OpenSpec.ofChange rxLiteralSpec)

/-- ITS FALSE NEIGHBOUR: 'it returns false'. Refute it at one input. -/
def rxLiteralWrong : ChangeSpec := { name := "rxLiteral", fn := fun _ => fun
  | [d] => { results := [.lit (.bool false)], args := [d] }
  | _ => none }
def RxLiteralWrongFalsely : Prop := rxLiteralRow.holds Tryd.pinned (OpenSpec.ofChange rxLiteralWrong)

/-- 'thresherlaw09.RxRepeats': WHATEVER THE INPUT: true; the input reads as it did. -/
def rxRepeatsSpec : ChangeSpec := { name := "rxRepeats", fn := fun _ => fun
  | [d1, d2, d3] => { results := [.lit (.bool true)], args := [d1, d2, d3] }
  | _ => none }
def rxRepeatsRow : OpenClaim := { program := "ytmfcofiihopbfaadoor", sum := "daf2640ac260344dce67ba989756b367e14463e18568e6a2442c40abd46f7edc", func := "thresher/thresherlaw09.RxRepeats", spec := "rxRepeats", inPlace := ["internal/bytealg.IndexByteString", "internal/bytealg.IndexString"], unfollowed := true, recurses := true, named := ["unicode/utf8.first", "unicode/utf8.acceptRanges", "internal/bytealg.MaxLen"], apart := false, laid := [("unicode/utf8.acceptRanges", laid_unicode_utf8_acceptRanges), ("unicode/utf8.first", laid_unicode_utf8_first)] }
def RxRepeatsSaid : Prop := rxRepeatsRow.holds Tryd.pinned (OpenSpec.ofChange rxRepeatsSpec)

/-- ITS FALSE NEIGHBOUR: 'it returns false'. Refute it at one input. -/
def rxRepeatsWrong : ChangeSpec := { name := "rxRepeats", fn := fun _ => fun
  | [d1, d2, d3] => { results := [.lit (.bool false)], args := [d1, d2, d3] }
  | _ => none }
def RxRepeatsWrongFalsely : Prop := rxRepeatsRow.holds Tryd.pinned (OpenSpec.ofChange rxRepeatsWrong)

/- THE SECOND FORM. 'bulk': how many values and letters a reading holds, each counted each time it is reached (what is shared counts as often as it is met; a slice's spare places count too). A statement '..UptoSaid' is the law's where the arguments, and the package variables that the reading takes, are together of bulk at most 1048576: NARROWER than '..Said'. Prove '..Said' where nothing that the law and all that it calls make is longer than what came in: it says more and counts as full. Else prove '..UptoSaid'. A law counts once. -/
mutual
def uptoBulk {H : Type} : DataW H → Nat
  | .lit (.string bytes) => bytes.length + 1
  | .lit _ => 1
  | .nil => 1
  | .ptr d => uptoBulk d + 1
  | .slice elems spare => uptoBulkAll elems + uptoBulkAll spare + 1
  | .agg parts => uptoBulkAll parts + 1
  | .iface _ d => uptoBulk d + 1
  | .map entries => uptoBulkEntries entries + 1
  | .held _ => 1
def uptoBulkAll {H : Type} : List (DataW H) → Nat
  | [] => 0
  | d :: r => uptoBulk d + uptoBulkAll r
def uptoBulkEntries {H : Type} : List (Lit × DataW H) → Nat
  | [] => 0
  | x :: r => uptoBulkEntry x + uptoBulkEntries r
def uptoBulkEntry {H : Type} : Lit × DataW H → Nat
  | (.string bytes, d) => bytes.length + uptoBulk d + 1
  | (_, d) => uptoBulk d + 1
 end
def uptoSmall : (H : Type) → List (DataW H) → Bool := fun _ ds => decide (uptoBulkAll ds ≤ 1048576)
def OpenSpec.upto (s : _root_.Go.ChangeSpec) : _root_.Go.OpenSpec := { _root_.Go.OpenSpec.ofChange s with cond := some uptoSmall }

/-- 'thresherlaw09.RxNames', WHERE WHAT IT READS IS OF BULK AT MOST 1048576: true; the input reads as it did. -/
def rxNamesUptoRow : OpenClaim := { program := "ytmfcofiihopbfaadoor", sum := "daf2640ac260344dce67ba989756b367e14463e18568e6a2442c40abd46f7edc", func := "thresher/thresherlaw09.RxNames", spec := "rxNames", inPlace := ["internal/bytealg.IndexByteString", "internal/bytealg.IndexString"], unfollowed := true, recurses := true, named := ["unicode/utf8.first", "unicode/utf8.acceptRanges", "internal/bytealg.MaxLen"], apart := false, laid := [("unicode/utf8.acceptRanges", laid_unicode_utf8_acceptRanges), ("unicode/utf8.first", laid_unicode_utf8_first)], narrowed := true }
def RxNamesUptoSaid : Prop := rxNamesUptoRow.holds Tryd.pinned (OpenSpec.upto rxNamesSpec)

/-- 'thresherlaw09.RxJoins', WHERE WHAT IT READS IS OF BULK AT MOST 1048576: true; the input reads as it did. -/
def rxJoinsUptoRow : OpenClaim := { program := "ytmfcofiihopbfaadoor", sum := "daf2640ac260344dce67ba989756b367e14463e18568e6a2442c40abd46f7edc", func := "thresher/thresherlaw09.RxJoins", spec := "rxJoins", inPlace := ["internal/bytealg.IndexByteString", "internal/bytealg.IndexString"], unfollowed := true, recurses := true, named := ["unicode/utf8.first", "unicode/utf8.acceptRanges", "internal/bytealg.MaxLen"], apart := false, laid := [("unicode/utf8.acceptRanges", laid_unicode_utf8_acceptRanges), ("unicode/utf8.first", laid_unicode_utf8_first)], narrowed := true }
def RxJoinsUptoSaid : Prop := rxJoinsUptoRow.holds Tryd.pinned (OpenSpec.upto rxJoinsSpec)

/-- 'thresherlaw09.RxLiteral', WHERE WHAT IT READS IS OF BULK AT MOST 1048576: true; the input reads as it did. -/
def rxLiteralUptoRow : OpenClaim := { program := "ytmfcofiihopbfaadoor", sum := "daf2640ac260344dce67ba989756b367e14463e18568e6a2442c40abd46f7edc", func := "thresher/thresherlaw09.RxLiteral", spec := "rxLiteral", inPlace := ["internal/bytealg.IndexByteString", "internal/bytealg.IndexString"], unfollowed := true, recurses := true, named := ["unicode/utf8.first", "unicode/utf8.acceptRanges", "internal/bytealg.MaxLen"], apart := false, laid := [("unicode/utf8.acceptRanges", laid_unicode_utf8_acceptRanges), ("unicode/utf8.first", laid_unicode_utf8_first)], narrowed := true }
def RxLiteralUptoSaid : Prop := rxLiteralUptoRow.holds Tryd.pinned (OpenSpec.upto rxLiteralSpec)

/-- 'thresherlaw09.RxRepeats', WHERE WHAT IT READS IS OF BULK AT MOST 1048576: true; the input reads as it did. -/
def rxRepeatsUptoRow : OpenClaim := { program := "ytmfcofiihopbfaadoor", sum := "daf2640ac260344dce67ba989756b367e14463e18568e6a2442c40abd46f7edc", func := "thresher/thresherlaw09.RxRepeats", spec := "rxRepeats", inPlace := ["internal/bytealg.IndexByteString", "internal/bytealg.IndexString"], unfollowed := true, recurses := true, named := ["unicode/utf8.first", "unicode/utf8.acceptRanges", "internal/bytealg.MaxLen"], apart := false, laid := [("unicode/utf8.acceptRanges", laid_unicode_utf8_acceptRanges), ("unicode/utf8.first", laid_unicode_utf8_first)], narrowed := true }
def RxRepeatsUptoSaid : Prop := rxRepeatsUptoRow.holds Tryd.pinned (OpenSpec.upto rxRepeatsSpec)

end Rows
end Go.Proofs.YtmfcofiihopbfaaDoor
