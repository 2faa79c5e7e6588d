/-
  NARROWER THAN 'FOR EVERY INPUT', by the rows' own cells (each row's printed sentence says how): DeltaDiffs: laid · DeltaPuts: laid · DeltaTakes: laid · DeltaBack: laid · DeltaSteps: laid.
  DERIVED. THE GIVEN ROWS OF THIS SEAT. 5 by the template 'for every input the law returns true; each argument reads behind the call as it read before'; 0 by the template 'total and deterministic' (their statements: YtchgpgnipmmflaaDoorTotals.lean).
  GIVEN WITH THE SEED: the statements are not yours to turn. If you find one false, say at which input.
  Laid BY PROGRAM, IN A SANDBOX (cutbox-rows.mjs): the forced cells as the released guide's own fill.sh prints them over the translation c85d3e5b02e93a90… (all of the seat's roots in one cut). By AI agents, Wed Nov 11 2026. No macro, syntax, notation, axiom, sorry.
-/
import Derived.Test.YtchgpgnipmmflaaDoorChecked
import GoSem.Claim
import GoSem.ClaimJoined
import GoSem.ClaimMapViews
import Derived.JoinedTies
import Derived.KernelRfl
namespace Go.Proofs.YtchgpgnipmmflaaDoor
/- THE CELL 'sum', in the pinned program and in every row, IS THE sha256 OF THE DUMP (.gsa) THAT YtchgpgnipmmflaaDoorProg.lean LOADS. Nothing in Lean hashes anything: it is a label: what it is worth is what the hold of that sum in a sandbox is worth. -/
noncomputable def Tryd.pinned : Pinned := { name := "ytchgpgnipmmflaadoor", sum := "c85d3e5b02e93a90af8b2d5e7aac1278a867daaaae293ed258f5c4fa5fd5e422", checked := Tryd.checked }
namespace Rows
def none {H : Type} : Left H := { results := [], args := [] }

/- WHAT THE LISTED PACKAGE-LEVEL VARIABLES READ AS WHEN THE CALL BEGINS. Each datum BY PROGRAM (the guide's laid-datum.mjs) off the statement by which the dump's own 'gosem.cut.vars' lays the variable. In a bare row this is a premise. The card (YtchgpgnipmmflaaDoorCards.lean) ties it to the program's text. -/
def laid_pilaster_widths_table {H : Type} : DataW H := .agg [.lit (.int .i64 1), .lit (.int .i64 2), .lit (.int .i64 3), .lit (.int .i64 4), .lit (.int .i64 5), .lit (.int .i64 6), .lit (.int .i64 7), .lit (.int .i64 8), .lit (.int .i64 9), .lit (.int .i64 10), .lit (.int .i64 11), .lit (.int .i64 12), .lit (.int .i64 13), .lit (.int .i64 14), .lit (.int .i64 15), .lit (.int .i64 16), .lit (.int .i64 17), .lit (.int .i64 18), .lit (.int .i64 19), .lit (.int .i64 20), .lit (.int .i64 21), .lit (.int .i64 22), .lit (.int .i64 23), .lit (.int .i64 24), .lit (.int .i64 26), .lit (.int .i64 28), .lit (.int .i64 30), .lit (.int .i64 32), .lit (.int .i64 40), .lit (.int .i64 48), .lit (.int .i64 56), .lit (.int .i64 64)]

/-- 'pilasterlaw09.DeltaDiffs': WHATEVER THE INPUT: true; the input reads as it did. -/
def deltaDiffsSpec : ChangeSpec := { name := "deltaDiffs", fn := fun _ => fun
  | [d1, d2, d3] => { results := [.lit (.bool true)], args := [d1, d2, d3] }
  | _ => none }
def deltaDiffsRow : OpenClaim := { program := "ytchgpgnipmmflaadoor", sum := "c85d3e5b02e93a90af8b2d5e7aac1278a867daaaae293ed258f5c4fa5fd5e422", func := "pilaster/pilasterlaw09.DeltaDiffs", spec := "deltaDiffs", unfollowed := true, recurses := true, named := ["pilaster/widths.table"], apart := false, laid := [("pilaster/widths.table", laid_pilaster_widths_table)] }
def DeltaDiffsSaid : Prop := deltaDiffsRow.holds Tryd.pinned (OpenSpec.ofChange deltaDiffsSpec)

/-- ITS FALSE NEIGHBOUR: 'it returns false'. Refute it at one input. -/
def deltaDiffsWrong : ChangeSpec := { name := "deltaDiffs", fn := fun _ => fun
  | [d1, d2, d3] => { results := [.lit (.bool false)], args := [d1, d2, d3] }
  | _ => none }
def DeltaDiffsWrongFalsely : Prop := deltaDiffsRow.holds Tryd.pinned (OpenSpec.ofChange deltaDiffsWrong)

/-- 'pilasterlaw09.DeltaPuts': WHATEVER THE INPUT: true; the input reads as it did. -/
def deltaPutsSpec : ChangeSpec := { name := "deltaPuts", fn := fun _ => fun
  | [d1, d2] => { results := [.lit (.bool true)], args := [d1, d2] }
  | _ => none }
def deltaPutsRow : OpenClaim := { program := "ytchgpgnipmmflaadoor", sum := "c85d3e5b02e93a90af8b2d5e7aac1278a867daaaae293ed258f5c4fa5fd5e422", func := "pilaster/pilasterlaw09.DeltaPuts", spec := "deltaPuts", unfollowed := true, recurses := true, named := ["pilaster/widths.table"], apart := false, laid := [("pilaster/widths.table", laid_pilaster_widths_table)] }
def DeltaPutsSaid : Prop := deltaPutsRow.holds Tryd.pinned (OpenSpec.ofChange deltaPutsSpec)

/-- ITS FALSE NEIGHBOUR: 'it returns false'. Refute it at one input. -/
def deltaPutsWrong : ChangeSpec := { name := "deltaPuts", fn := fun _ => fun
  | [d1, d2] => { results := [.lit (.bool false)], args := [d1, d2] }
  | _ => none }
def DeltaPutsWrongFalsely : Prop := deltaPutsRow.holds Tryd.pinned (OpenSpec.ofChange deltaPutsWrong)

/-- 'pilasterlaw09.DeltaTakes': WHATEVER THE INPUT: true; the input reads as it did. -/
def deltaTakesSpec : ChangeSpec := { name := "deltaTakes", fn := fun _ => fun
  | [d1, d2] => { results := [.lit (.bool true)], args := [d1, d2] }
  | _ => none }
def deltaTakesRow : OpenClaim := { program := "ytchgpgnipmmflaadoor", sum := "c85d3e5b02e93a90af8b2d5e7aac1278a867daaaae293ed258f5c4fa5fd5e422", func := "pilaster/pilasterlaw09.DeltaTakes", spec := "deltaTakes", unfollowed := true, recurses := true, named := ["pilaster/widths.table"], apart := false, laid := [("pilaster/widths.table", laid_pilaster_widths_table)] }
def DeltaTakesSaid : Prop := deltaTakesRow.holds Tryd.pinned (OpenSpec.ofChange deltaTakesSpec)

/-- ITS FALSE NEIGHBOUR: 'it returns false'. Refute it at one input. -/
def deltaTakesWrong : ChangeSpec := { name := "deltaTakes", fn := fun _ => fun
  | [d1, d2] => { results := [.lit (.bool false)], args := [d1, d2] }
  | _ => none }
def DeltaTakesWrongFalsely : Prop := deltaTakesRow.holds Tryd.pinned (OpenSpec.ofChange deltaTakesWrong)

/-- 'pilasterlaw09.DeltaBack': WHATEVER THE INPUT: true; the input reads as it did. -/
def deltaBackSpec : ChangeSpec := { name := "deltaBack", fn := fun _ => fun
  | [d1, d2, d3] => { results := [.lit (.bool true)], args := [d1, d2, d3] }
  | _ => none }
def deltaBackRow : OpenClaim := { program := "ytchgpgnipmmflaadoor", sum := "c85d3e5b02e93a90af8b2d5e7aac1278a867daaaae293ed258f5c4fa5fd5e422", func := "pilaster/pilasterlaw09.DeltaBack", spec := "deltaBack", unfollowed := true, recurses := true, named := ["pilaster/widths.table"], apart := false, laid := [("pilaster/widths.table", laid_pilaster_widths_table)] }
def DeltaBackSaid : Prop := deltaBackRow.holds Tryd.pinned (OpenSpec.ofChange deltaBackSpec)

/-- ITS FALSE NEIGHBOUR: 'it returns false'. Refute it at one input. -/
def deltaBackWrong : ChangeSpec := { name := "deltaBack", fn := fun _ => fun
  | [d1, d2, d3] => { results := [.lit (.bool false)], args := [d1, d2, d3] }
  | _ => none }
def DeltaBackWrongFalsely : Prop := deltaBackRow.holds Tryd.pinned (OpenSpec.ofChange deltaBackWrong)

/-- 'pilasterlaw09.DeltaSteps': WHATEVER THE INPUT: true; the input reads as it did. -/
def deltaStepsSpec : ChangeSpec := { name := "deltaSteps", fn := fun _ => fun
  | [d1, d2] => { results := [.lit (.bool true)], args := [d1, d2] }
  | _ => none }
def deltaStepsRow : OpenClaim := { program := "ytchgpgnipmmflaadoor", sum := "c85d3e5b02e93a90af8b2d5e7aac1278a867daaaae293ed258f5c4fa5fd5e422", func := "pilaster/pilasterlaw09.DeltaSteps", spec := "deltaSteps", unfollowed := true, recurses := true, named := ["pilaster/widths.table"], apart := false, laid := [("pilaster/widths.table", laid_pilaster_widths_table)] }
def DeltaStepsSaid : Prop := deltaStepsRow.holds Tryd.pinned (OpenSpec.ofChange deltaStepsSpec)

/-- ITS FALSE NEIGHBOUR: 'it returns false'. Refute it at one input. -/
def deltaStepsWrong : ChangeSpec := { name := "deltaSteps", fn := fun _ => fun
  | [d1, d2] => { results := [.lit (.bool false)], args := [d1, d2] }
  | _ => none }
def DeltaStepsWrongFalsely : Prop := deltaStepsRow.holds Tryd.pinned (OpenSpec.ofChange deltaStepsWrong)

/- THE SECOND FORM. 'bulk': how many values and letters a reading holds, each counted each time it is reached (what is shared counts as often as it is met; a slice's spare places count too). A statement '..UptoSaid' is the law's where the arguments, and the package variables that the reading takes, are together of bulk at most 1048576: NARROWER than '..Said'. Prove '..Said' where nothing that the law and all that it calls make is longer than what came in: it says more and counts as full. Else prove '..UptoSaid'. A law counts once. -/
mutual
def uptoBulk {H : Type} : DataW H → Nat
  | .lit (.string bytes) => bytes.length + 1
  | .lit _ => 1
  | .nil => 1
  | .ptr d => uptoBulk d + 1
  | .slice elems spare => uptoBulkAll elems + uptoBulkAll spare + 1
  | .agg parts => uptoBulkAll parts + 1
  | .iface _ d => uptoBulk d + 1
  | .map entries => uptoBulkEntries entries + 1
  | .held _ => 1
def uptoBulkAll {H : Type} : List (DataW H) → Nat
  | [] => 0
  | d :: r => uptoBulk d + uptoBulkAll r
def uptoBulkEntries {H : Type} : List (Lit × DataW H) → Nat
  | [] => 0
  | x :: r => uptoBulkEntry x + uptoBulkEntries r
def uptoBulkEntry {H : Type} : Lit × DataW H → Nat
  | (.string bytes, d) => bytes.length + uptoBulk d + 1
  | (_, d) => uptoBulk d + 1
 end
def uptoSmall : (H : Type) → List (DataW H) → Bool := fun _ ds => decide (uptoBulkAll ds ≤ 1048576)
def OpenSpec.upto (s : _root_.Go.ChangeSpec) : _root_.Go.OpenSpec := { _root_.Go.OpenSpec.ofChange s with cond := some uptoSmall }

/-- 'pilasterlaw09.DeltaDiffs', WHERE WHAT IT READS IS OF BULK AT MOST 1048576: true; the input reads as it did. -/
def deltaDiffsUptoRow : OpenClaim := { program := "ytchgpgnipmmflaadoor", sum := "c85d3e5b02e93a90af8b2d5e7aac1278a867daaaae293ed258f5c4fa5fd5e422", func := "pilaster/pilasterlaw09.DeltaDiffs", spec := "deltaDiffs", unfollowed := true, recurses := true, named := ["pilaster/widths.table"], apart := false, laid := [("pilaster/widths.table", laid_pilaster_widths_table)], narrowed := true }
def DeltaDiffsUptoSaid : Prop := deltaDiffsUptoRow.holds Tryd.pinned (OpenSpec.upto deltaDiffsSpec)

/-- 'pilasterlaw09.DeltaPuts', WHERE WHAT IT READS IS OF BULK AT MOST 1048576: true; the input reads as it did. -/
def deltaPutsUptoRow : OpenClaim := { program := "ytchgpgnipmmflaadoor", sum := "c85d3e5b02e93a90af8b2d5e7aac1278a867daaaae293ed258f5c4fa5fd5e422", func := "pilaster/pilasterlaw09.DeltaPuts", spec := "deltaPuts", unfollowed := true, recurses := true, named := ["pilaster/widths.table"], apart := false, laid := [("pilaster/widths.table", laid_pilaster_widths_table)], narrowed := true }
def DeltaPutsUptoSaid : Prop := deltaPutsUptoRow.holds Tryd.pinned (OpenSpec.upto deltaPutsSpec)

/-- 'pilasterlaw09.DeltaTakes', WHERE WHAT IT READS IS OF BULK AT MOST 1048576: true; the input reads as it did. -/
def deltaTakesUptoRow : OpenClaim := { program := "ytchgpgnipmmflaadoor", sum := "c85d3e5b02e93a90af8b2d5e7aac1278a867daaaae293ed258f5c4fa5fd5e422", func := "pilaster/pilasterlaw09.DeltaTakes", spec := "deltaTakes", unfollowed := true, recurses := true, named := ["pilaster/widths.table"], apart := false, laid := [("pilaster/widths.table", laid_pilaster_widths_table)], narrowed := true }
def DeltaTakesUptoSaid : Prop := deltaTakesUptoRow.holds Tryd.pinned (OpenSpec.upto deltaTakesSpec)

/-- 'pilasterlaw09.DeltaBack', WHERE WHAT IT READS IS OF BULK AT MOST 1048576: true; the input reads as it did. -/
def deltaBackUptoRow : OpenClaim := { program := "ytchgpgnipmmflaadoor", sum := "c85d3e5b02e93a90af8b2d5e7aac1278a867daaaae293ed258f5c4fa5fd5e422", func := "pilaster/pilasterlaw09.DeltaBack", spec := "deltaBack", unfollowed := true, recurses := true, named := ["pilaster/widths.table"], apart := false, laid := [("pilaster/widths.table", laid_pilaster_widths_table)], narrowed := true }
def DeltaBackUptoSaid : Prop := deltaBackUptoRow.holds Tryd.pinned (OpenSpec.upto deltaBackSpec)

/-- 'pilasterlaw09.DeltaSteps', WHERE WHAT IT READS IS OF BULK AT MOST 1048576: true; the input reads as it did. -/
def deltaStepsUptoRow : OpenClaim := { program := "ytchgpgnipmmflaadoor", sum := "c85d3e5b02e93a90af8b2d5e7aac1278a867daaaae293ed258f5c4fa5fd5e422", func := "pilaster/pilasterlaw09.DeltaSteps", spec := "deltaSteps", unfollowed := true, recurses := true, named := ["pilaster/widths.table"], apart := false, laid := [("pilaster/widths.table", laid_pilaster_widths_table)], narrowed := true }
def DeltaStepsUptoSaid : Prop := deltaStepsUptoRow.holds Tryd.pinned (OpenSpec.upto deltaStepsSpec)

end Rows
end Go.Proofs.YtchgpgnipmmflaaDoor
