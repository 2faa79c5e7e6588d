/-
  NARROWER THAN 'FOR EVERY INPUT', by the rows' own cells (each row's printed sentence says how): PredMay: laid · PredEvals: laid · PredKnows: laid · PredHolds: laid · PredTurned: laid.
  DERIVED. THE GIVEN ROWS OF THIS SEAT. 5 by the template 'for every input the law returns true; each argument reads behind the call as it read before'; 0 by the template 'total and deterministic' (their statements: YtniniophoocalaaDoorTotals.lean).
  GIVEN WITH THE SEED: the statements are not yours to turn. If you find one false, say at which input.
  Laid BY PROGRAM, IN A SANDBOX (cutbox-rows.mjs): the forced cells as the released guide's own fill.sh prints them over the translation f6735f02e56c3b88… (all of the seat's roots in one cut). By AI agents, Wed Nov 11 2026. No macro, syntax, notation, axiom, sorry.
-/
import Derived.Test.YtniniophoocalaaDoorChecked
import GoSem.PinnedTables
import GoSem.Claim
import GoSem.ClaimJoined
import GoSem.ClaimMapViews
import Derived.JoinedTies
import Derived.KernelRfl
namespace Go.Proofs.YtniniophoocalaaDoor
/- THE CELL 'sum', in the pinned program and in every row, IS THE sha256 OF THE DUMP (.gsa) THAT YtniniophoocalaaDoorProg.lean LOADS. Nothing in Lean hashes anything: it is a label: what it is worth is what the hold of that sum in a sandbox is worth. -/
noncomputable def Tryd.pinned : Pinned := { name := "ytniniophoocalaadoor", sum := "f6735f02e56c3b887b3c7620562f5c20d1eb202ae627e9d3e23b403109ad1ce7", checked := Tryd.checked }
namespace Rows
def none {H : Type} : Left H := { results := [], args := [] }

/- WHAT THE LISTED PACKAGE-LEVEL VARIABLES READ AS WHEN THE CALL BEGINS. Each datum BY PROGRAM (the guide's laid-datum.mjs) off the statement by which the dump's own 'gosem.cut.vars' lays the variable. In a bare row this is a premise. The card (YtniniophoocalaaDoorCards.lean) ties it to the program's text. -/
def laid_unicode_utf8_acceptRanges {H : Type} : DataW H := .agg [.agg [.lit (.int .u8 128), .lit (.int .u8 191)], .agg [.lit (.int .u8 160), .lit (.int .u8 191)], .agg [.lit (.int .u8 128), .lit (.int .u8 159)], .agg [.lit (.int .u8 144), .lit (.int .u8 191)], .agg [.lit (.int .u8 128), .lit (.int .u8 143)], .agg [.lit (.int .u8 0), .lit (.int .u8 0)], .agg [.lit (.int .u8 0), .lit (.int .u8 0)], .agg [.lit (.int .u8 0), .lit (.int .u8 0)], .agg [.lit (.int .u8 0), .lit (.int .u8 0)], .agg [.lit (.int .u8 0), .lit (.int .u8 0)], .agg [.lit (.int .u8 0), .lit (.int .u8 0)], .agg [.lit (.int .u8 0), .lit (.int .u8 0)], .agg [.lit (.int .u8 0), .lit (.int .u8 0)], .agg [.lit (.int .u8 0), .lit (.int .u8 0)], .agg [.lit (.int .u8 0), .lit (.int .u8 0)], .agg [.lit (.int .u8 0), .lit (.int .u8 0)]]
/-- One of Go's own tables, pinned by name: the form's constant. -/
def laid_unicode_utf8_first : DataW Unit := Go.Pinned.utf8First

/-- 'pilasterlaw18.PredMay': WHATEVER THE INPUT: true; the input reads as it did. -/
def predMaySpec : ChangeSpec := { name := "predMay", fn := fun _ => fun
  | [d1, d2] => { results := [.lit (.bool true)], args := [d1, d2] }
  | _ => none }
def predMayRow : OpenClaim := { program := "ytniniophoocalaadoor", sum := "f6735f02e56c3b887b3c7620562f5c20d1eb202ae627e9d3e23b403109ad1ce7", func := "pilaster/pilasterlaw18.PredMay", spec := "predMay", inPlace := ["internal/bytealg.abigen_runtime_cmpstring"], unfollowed := true, recurses := true, named := ["unicode/utf8.first", "unicode/utf8.acceptRanges"], apart := false, laid := [("unicode/utf8.acceptRanges", laid_unicode_utf8_acceptRanges), ("unicode/utf8.first", laid_unicode_utf8_first)] }
def PredMaySaid : Prop := predMayRow.holds Tryd.pinned (OpenSpec.ofChange predMaySpec)

/-- ITS FALSE NEIGHBOUR: 'it returns false'. Refute it at one input. -/
def predMayWrong : ChangeSpec := { name := "predMay", fn := fun _ => fun
  | [d1, d2] => { results := [.lit (.bool false)], args := [d1, d2] }
  | _ => none }
def PredMayWrongFalsely : Prop := predMayRow.holds Tryd.pinned (OpenSpec.ofChange predMayWrong)

/-- 'pilasterlaw18.PredEvals': WHATEVER THE INPUT: true; the input reads as it did. -/
def predEvalsSpec : ChangeSpec := { name := "predEvals", fn := fun _ => fun
  | [d1, d2, d3] => { results := [.lit (.bool true)], args := [d1, d2, d3] }
  | _ => none }
def predEvalsRow : OpenClaim := { program := "ytniniophoocalaadoor", sum := "f6735f02e56c3b887b3c7620562f5c20d1eb202ae627e9d3e23b403109ad1ce7", func := "pilaster/pilasterlaw18.PredEvals", spec := "predEvals", inPlace := ["internal/bytealg.abigen_runtime_cmpstring"], unfollowed := true, recurses := true, named := ["unicode/utf8.first", "unicode/utf8.acceptRanges"], apart := false, laid := [("unicode/utf8.acceptRanges", laid_unicode_utf8_acceptRanges), ("unicode/utf8.first", laid_unicode_utf8_first)] }
def PredEvalsSaid : Prop := predEvalsRow.holds Tryd.pinned (OpenSpec.ofChange predEvalsSpec)

/-- ITS FALSE NEIGHBOUR: 'it returns false'. Refute it at one input. -/
def predEvalsWrong : ChangeSpec := { name := "predEvals", fn := fun _ => fun
  | [d1, d2, d3] => { results := [.lit (.bool false)], args := [d1, d2, d3] }
  | _ => none }
def PredEvalsWrongFalsely : Prop := predEvalsRow.holds Tryd.pinned (OpenSpec.ofChange predEvalsWrong)

/-- 'pilasterlaw18.PredKnows': WHATEVER THE INPUT: true; the input reads as it did. -/
def predKnowsSpec : ChangeSpec := { name := "predKnows", fn := fun _ => fun
  | [d1, d2, d3] => { results := [.lit (.bool true)], args := [d1, d2, d3] }
  | _ => none }
def predKnowsRow : OpenClaim := { program := "ytniniophoocalaadoor", sum := "f6735f02e56c3b887b3c7620562f5c20d1eb202ae627e9d3e23b403109ad1ce7", func := "pilaster/pilasterlaw18.PredKnows", spec := "predKnows", inPlace := ["internal/bytealg.abigen_runtime_cmpstring"], unfollowed := true, recurses := true, named := ["unicode/utf8.first", "unicode/utf8.acceptRanges"], apart := false, laid := [("unicode/utf8.acceptRanges", laid_unicode_utf8_acceptRanges), ("unicode/utf8.first", laid_unicode_utf8_first)] }
def PredKnowsSaid : Prop := predKnowsRow.holds Tryd.pinned (OpenSpec.ofChange predKnowsSpec)

/-- ITS FALSE NEIGHBOUR: 'it returns false'. Refute it at one input. -/
def predKnowsWrong : ChangeSpec := { name := "predKnows", fn := fun _ => fun
  | [d1, d2, d3] => { results := [.lit (.bool false)], args := [d1, d2, d3] }
  | _ => none }
def PredKnowsWrongFalsely : Prop := predKnowsRow.holds Tryd.pinned (OpenSpec.ofChange predKnowsWrong)

/-- 'pilasterlaw18.PredHolds': WHATEVER THE INPUT: true; the input reads as it did. -/
def predHoldsSpec : ChangeSpec := { name := "predHolds", fn := fun _ => fun
  | [d1, d2, d3] => { results := [.lit (.bool true)], args := [d1, d2, d3] }
  | _ => none }
def predHoldsRow : OpenClaim := { program := "ytniniophoocalaadoor", sum := "f6735f02e56c3b887b3c7620562f5c20d1eb202ae627e9d3e23b403109ad1ce7", func := "pilaster/pilasterlaw18.PredHolds", spec := "predHolds", inPlace := ["internal/bytealg.abigen_runtime_cmpstring"], unfollowed := true, recurses := true, named := ["unicode/utf8.first", "unicode/utf8.acceptRanges"], apart := false, laid := [("unicode/utf8.acceptRanges", laid_unicode_utf8_acceptRanges), ("unicode/utf8.first", laid_unicode_utf8_first)] }
def PredHoldsSaid : Prop := predHoldsRow.holds Tryd.pinned (OpenSpec.ofChange predHoldsSpec)

/-- ITS FALSE NEIGHBOUR: 'it returns false'. Refute it at one input. -/
def predHoldsWrong : ChangeSpec := { name := "predHolds", fn := fun _ => fun
  | [d1, d2, d3] => { results := [.lit (.bool false)], args := [d1, d2, d3] }
  | _ => none }
def PredHoldsWrongFalsely : Prop := predHoldsRow.holds Tryd.pinned (OpenSpec.ofChange predHoldsWrong)

/-- 'pilasterlaw18.PredTurned': WHATEVER THE INPUT: true; the input reads as it did. -/
def predTurnedSpec : ChangeSpec := { name := "predTurned", fn := fun _ => fun
  | [d1, d2, d3] => { results := [.lit (.bool true)], args := [d1, d2, d3] }
  | _ => none }
def predTurnedRow : OpenClaim := { program := "ytniniophoocalaadoor", sum := "f6735f02e56c3b887b3c7620562f5c20d1eb202ae627e9d3e23b403109ad1ce7", func := "pilaster/pilasterlaw18.PredTurned", spec := "predTurned", inPlace := ["internal/bytealg.abigen_runtime_cmpstring"], unfollowed := true, recurses := true, named := ["unicode/utf8.first", "unicode/utf8.acceptRanges"], apart := false, laid := [("unicode/utf8.acceptRanges", laid_unicode_utf8_acceptRanges), ("unicode/utf8.first", laid_unicode_utf8_first)] }
def PredTurnedSaid : Prop := predTurnedRow.holds Tryd.pinned (OpenSpec.ofChange predTurnedSpec)

/-- ITS FALSE NEIGHBOUR: 'it returns false'. Refute it at one input. -/
def predTurnedWrong : ChangeSpec := { name := "predTurned", fn := fun _ => fun
  | [d1, d2, d3] => { results := [.lit (.bool false)], args := [d1, d2, d3] }
  | _ => none }
def PredTurnedWrongFalsely : Prop := predTurnedRow.holds Tryd.pinned (OpenSpec.ofChange predTurnedWrong)

/- THE SECOND FORM. 'bulk': how many values and letters a reading holds, each counted each time it is reached (what is shared counts as often as it is met; a slice's spare places count too). A statement '..UptoSaid' is the law's where the arguments, and the package variables that the reading takes, are together of bulk at most 1048576: NARROWER than '..Said'. Prove '..Said' where nothing that the law and all that it calls make is longer than what came in: it says more and counts as full. Else prove '..UptoSaid'. A law counts once. -/
mutual
def uptoBulk {H : Type} : DataW H → Nat
  | .lit (.string bytes) => bytes.length + 1
  | .lit _ => 1
  | .nil => 1
  | .ptr d => uptoBulk d + 1
  | .slice elems spare => uptoBulkAll elems + uptoBulkAll spare + 1
  | .agg parts => uptoBulkAll parts + 1
  | .iface _ d => uptoBulk d + 1
  | .map entries => uptoBulkEntries entries + 1
  | .held _ => 1
def uptoBulkAll {H : Type} : List (DataW H) → Nat
  | [] => 0
  | d :: r => uptoBulk d + uptoBulkAll r
def uptoBulkEntries {H : Type} : List (Lit × DataW H) → Nat
  | [] => 0
  | x :: r => uptoBulkEntry x + uptoBulkEntries r
def uptoBulkEntry {H : Type} : Lit × DataW H → Nat
  | (.string bytes, d) => bytes.length + uptoBulk d + 1
  | (_, d) => uptoBulk d + 1
 end
def uptoSmall : (H : Type) → List (DataW H) → Bool := fun _ ds => decide (uptoBulkAll ds ≤ 1048576)
def OpenSpec.upto (s : _root_.Go.ChangeSpec) : _root_.Go.OpenSpec := { _root_.Go.OpenSpec.ofChange s with cond := some uptoSmall }

/-- 'pilasterlaw18.PredMay', WHERE WHAT IT READS IS OF BULK AT MOST 1048576: true; the input reads as it did. -/
def predMayUptoRow : OpenClaim := { program := "ytniniophoocalaadoor", sum := "f6735f02e56c3b887b3c7620562f5c20d1eb202ae627e9d3e23b403109ad1ce7", func := "pilaster/pilasterlaw18.PredMay", spec := "predMay", inPlace := ["internal/bytealg.abigen_runtime_cmpstring"], unfollowed := true, recurses := true, named := ["unicode/utf8.first", "unicode/utf8.acceptRanges"], apart := false, laid := [("unicode/utf8.acceptRanges", laid_unicode_utf8_acceptRanges), ("unicode/utf8.first", laid_unicode_utf8_first)], narrowed := true }
def PredMayUptoSaid : Prop := predMayUptoRow.holds Tryd.pinned (OpenSpec.upto predMaySpec)

/-- 'pilasterlaw18.PredEvals', WHERE WHAT IT READS IS OF BULK AT MOST 1048576: true; the input reads as it did. -/
def predEvalsUptoRow : OpenClaim := { program := "ytniniophoocalaadoor", sum := "f6735f02e56c3b887b3c7620562f5c20d1eb202ae627e9d3e23b403109ad1ce7", func := "pilaster/pilasterlaw18.PredEvals", spec := "predEvals", inPlace := ["internal/bytealg.abigen_runtime_cmpstring"], unfollowed := true, recurses := true, named := ["unicode/utf8.first", "unicode/utf8.acceptRanges"], apart := false, laid := [("unicode/utf8.acceptRanges", laid_unicode_utf8_acceptRanges), ("unicode/utf8.first", laid_unicode_utf8_first)], narrowed := true }
def PredEvalsUptoSaid : Prop := predEvalsUptoRow.holds Tryd.pinned (OpenSpec.upto predEvalsSpec)

/-- 'pilasterlaw18.PredKnows', WHERE WHAT IT READS IS OF BULK AT MOST 1048576: true; the input reads as it did. -/
def predKnowsUptoRow : OpenClaim := { program := "ytniniophoocalaadoor", sum := "f6735f02e56c3b887b3c7620562f5c20d1eb202ae627e9d3e23b403109ad1ce7", func := "pilaster/pilasterlaw18.PredKnows", spec := "predKnows", inPlace := ["internal/bytealg.abigen_runtime_cmpstring"], unfollowed := true, recurses := true, named := ["unicode/utf8.first", "unicode/utf8.acceptRanges"], apart := false, laid := [("unicode/utf8.acceptRanges", laid_unicode_utf8_acceptRanges), ("unicode/utf8.first", laid_unicode_utf8_first)], narrowed := true }
def PredKnowsUptoSaid : Prop := predKnowsUptoRow.holds Tryd.pinned (OpenSpec.upto predKnowsSpec)

/-- 'pilasterlaw18.PredHolds', WHERE WHAT IT READS IS OF BULK AT MOST 1048576: true; the input reads as it did. -/
def predHoldsUptoRow : OpenClaim := { program := "ytniniophoocalaadoor", sum := "f6735f02e56c3b887b3c7620562f5c20d1eb202ae627e9d3e23b403109ad1ce7", func := "pilaster/pilasterlaw18.PredHolds", spec := "predHolds", inPlace := ["internal/bytealg.abigen_runtime_cmpstring"], unfollowed := true, recurses := true, named := ["unicode/utf8.first", "unicode/utf8.acceptRanges"], apart := false, laid := [("unicode/utf8.acceptRanges", laid_unicode_utf8_acceptRanges), ("unicode/utf8.first", laid_unicode_utf8_first)], narrowed := true }
def PredHoldsUptoSaid : Prop := predHoldsUptoRow.holds Tryd.pinned (OpenSpec.upto predHoldsSpec)

/-- 'pilasterlaw18.PredTurned', WHERE WHAT IT READS IS OF BULK AT MOST 1048576: true; the input reads as it did. -/
def predTurnedUptoRow : OpenClaim := { program := "ytniniophoocalaadoor", sum := "f6735f02e56c3b887b3c7620562f5c20d1eb202ae627e9d3e23b403109ad1ce7", func := "pilaster/pilasterlaw18.PredTurned", spec := "predTurned", inPlace := ["internal/bytealg.abigen_runtime_cmpstring"], unfollowed := true, recurses := true, named := ["unicode/utf8.first", "unicode/utf8.acceptRanges"], apart := false, laid := [("unicode/utf8.acceptRanges", laid_unicode_utf8_acceptRanges), ("unicode/utf8.first", laid_unicode_utf8_first)], narrowed := true }
def PredTurnedUptoSaid : Prop := predTurnedUptoRow.holds Tryd.pinned (OpenSpec.upto predTurnedSpec)

end Rows
end Go.Proofs.YtniniophoocalaaDoor
