/-
  NARROWER THAN 'FOR EVERY INPUT', by the rows' own cells (each row's printed sentence says how): TextsPuts: laid · TextsTakes: laid · TextsBack: laid · TextsWords: laid · TextsKinds: laid.
  DERIVED. THE GIVEN ROWS OF THIS SEAT. 5 by the template 'for every input the law returns true; each argument reads behind the call as it read before'; 0 by the template 'total and deterministic' (their statements: YtblpkmmhmdpkjaaGreatDoorTotals.lean).
  GIVEN WITH THE SEED: the statements are not yours to turn. If you find one false, say at which input.
  Laid BY PROGRAM, IN A SANDBOX (cutbox-rows.mjs): the forced cells as the released guide's own fill.sh prints them over the translation 7767f4008dbdf414… (all of the seat's roots in one cut). By AI agents, Wed Nov 11 2026. No macro, syntax, notation, axiom, sorry.
-/
import Derived.Test.YtblpkmmhmdpkjaaGreatDoorChecked
import GoSem.Claim
import GoSem.ClaimJoined
import GoSem.ClaimMapViews
import Derived.JoinedTies
import Derived.KernelRfl
namespace Go.Proofs.YtblpkmmhmdpkjaaGreatDoor
/- THE CELL 'sum', in the pinned program and in every row, IS THE sha256 OF THE DUMP (.gsa) THAT YtblpkmmhmdpkjaaGreatDoorProg.lean LOADS. Nothing in Lean hashes anything: it is a label: what it is worth is what the hold of that sum in a sandbox is worth. -/
noncomputable def Tryz.pinned : Pinned := { name := "ytblpkmmhmdpkjaagreatdoor", sum := "7767f4008dbdf414dee648f0ccb5a479a8ff46ae6c69b4179fe14362cb3acce8", checked := Tryz.checked }
namespace Rows
def none {H : Type} : Left H := { results := [], args := [] }

/- WHAT THE LISTED PACKAGE-LEVEL VARIABLES READ AS WHEN THE CALL BEGINS. Each datum BY PROGRAM (the guide's laid-datum.mjs) off the statement by which the dump's own 'gosem.cut.vars' lays the variable. In a bare row this is a premise. The card (YtblpkmmhmdpkjaaGreatDoorCards.lean) ties it to the program's text. -/
def laid_pilaster_widths_table {H : Type} : DataW H := .agg [.lit (.int .i64 1), .lit (.int .i64 2), .lit (.int .i64 3), .lit (.int .i64 4), .lit (.int .i64 5), .lit (.int .i64 6), .lit (.int .i64 7), .lit (.int .i64 8), .lit (.int .i64 9), .lit (.int .i64 10), .lit (.int .i64 11), .lit (.int .i64 12), .lit (.int .i64 13), .lit (.int .i64 14), .lit (.int .i64 15), .lit (.int .i64 16), .lit (.int .i64 17), .lit (.int .i64 18), .lit (.int .i64 19), .lit (.int .i64 20), .lit (.int .i64 21), .lit (.int .i64 22), .lit (.int .i64 23), .lit (.int .i64 24), .lit (.int .i64 26), .lit (.int .i64 28), .lit (.int .i64 30), .lit (.int .i64 32), .lit (.int .i64 40), .lit (.int .i64 48), .lit (.int .i64 56), .lit (.int .i64 64)]

/-- 'pilasterlaw15.TextsPuts': WHATEVER THE INPUT: true; the input reads as it did. -/
def textsPutsSpec : ChangeSpec := { name := "textsPuts", fn := fun _ => fun
  | [d] => { results := [.lit (.bool true)], args := [d] }
  | _ => none }
def textsPutsRow : OpenClaim := { program := "ytblpkmmhmdpkjaagreatdoor", sum := "7767f4008dbdf414dee648f0ccb5a479a8ff46ae6c69b4179fe14362cb3acce8", func := "pilaster/pilasterlaw15.TextsPuts", spec := "textsPuts", inPlace := ["internal/abi.NoEscape", "internal/bytealg.MakeNoZero"], unfollowed := true, recurses := true, named := ["pilaster/widths.table"], apart := false, laid := [("pilaster/widths.table", laid_pilaster_widths_table)] }
def TextsPutsSaid : Prop := textsPutsRow.holds Tryz.pinned (OpenSpec.ofChange textsPutsSpec)

/-- ITS FALSE NEIGHBOUR: 'it returns false'. Refute it at one input. -/
def textsPutsWrong : ChangeSpec := { name := "textsPuts", fn := fun _ => fun
  | [d] => { results := [.lit (.bool false)], args := [d] }
  | _ => none }
def TextsPutsWrongFalsely : Prop := textsPutsRow.holds Tryz.pinned (OpenSpec.ofChange textsPutsWrong)

/-- 'pilasterlaw15.TextsTakes': WHATEVER THE INPUT: true; the input reads as it did. -/
def textsTakesSpec : ChangeSpec := { name := "textsTakes", fn := fun _ => fun
  | [d] => { results := [.lit (.bool true)], args := [d] }
  | _ => none }
def textsTakesRow : OpenClaim := { program := "ytblpkmmhmdpkjaagreatdoor", sum := "7767f4008dbdf414dee648f0ccb5a479a8ff46ae6c69b4179fe14362cb3acce8", func := "pilaster/pilasterlaw15.TextsTakes", spec := "textsTakes", inPlace := ["internal/abi.NoEscape", "internal/bytealg.MakeNoZero"], unfollowed := true, recurses := true, named := ["pilaster/widths.table"], apart := false, laid := [("pilaster/widths.table", laid_pilaster_widths_table)] }
def TextsTakesSaid : Prop := textsTakesRow.holds Tryz.pinned (OpenSpec.ofChange textsTakesSpec)

/-- ITS FALSE NEIGHBOUR: 'it returns false'. Refute it at one input. -/
def textsTakesWrong : ChangeSpec := { name := "textsTakes", fn := fun _ => fun
  | [d] => { results := [.lit (.bool false)], args := [d] }
  | _ => none }
def TextsTakesWrongFalsely : Prop := textsTakesRow.holds Tryz.pinned (OpenSpec.ofChange textsTakesWrong)

/-- 'pilasterlaw15.TextsBack': WHATEVER THE INPUT: true; the input reads as it did. -/
def textsBackSpec : ChangeSpec := { name := "textsBack", fn := fun _ => fun
  | [d] => { results := [.lit (.bool true)], args := [d] }
  | _ => none }
def textsBackRow : OpenClaim := { program := "ytblpkmmhmdpkjaagreatdoor", sum := "7767f4008dbdf414dee648f0ccb5a479a8ff46ae6c69b4179fe14362cb3acce8", func := "pilaster/pilasterlaw15.TextsBack", spec := "textsBack", inPlace := ["internal/abi.NoEscape", "internal/bytealg.MakeNoZero"], unfollowed := true, recurses := true, named := ["pilaster/widths.table"], apart := false, laid := [("pilaster/widths.table", laid_pilaster_widths_table)] }
def TextsBackSaid : Prop := textsBackRow.holds Tryz.pinned (OpenSpec.ofChange textsBackSpec)

/-- ITS FALSE NEIGHBOUR: 'it returns false'. Refute it at one input. -/
def textsBackWrong : ChangeSpec := { name := "textsBack", fn := fun _ => fun
  | [d] => { results := [.lit (.bool false)], args := [d] }
  | _ => none }
def TextsBackWrongFalsely : Prop := textsBackRow.holds Tryz.pinned (OpenSpec.ofChange textsBackWrong)

/-- 'pilasterlaw15.TextsWords': WHATEVER THE INPUT: true; the input reads as it did. -/
def textsWordsSpec : ChangeSpec := { name := "textsWords", fn := fun _ => fun
  | [d] => { results := [.lit (.bool true)], args := [d] }
  | _ => none }
def textsWordsRow : OpenClaim := { program := "ytblpkmmhmdpkjaagreatdoor", sum := "7767f4008dbdf414dee648f0ccb5a479a8ff46ae6c69b4179fe14362cb3acce8", func := "pilaster/pilasterlaw15.TextsWords", spec := "textsWords", inPlace := ["internal/abi.NoEscape", "internal/bytealg.MakeNoZero"], unfollowed := true, recurses := true, named := ["pilaster/widths.table"], apart := false, laid := [("pilaster/widths.table", laid_pilaster_widths_table)] }
def TextsWordsSaid : Prop := textsWordsRow.holds Tryz.pinned (OpenSpec.ofChange textsWordsSpec)

/-- ITS FALSE NEIGHBOUR: 'it returns false'. Refute it at one input. -/
def textsWordsWrong : ChangeSpec := { name := "textsWords", fn := fun _ => fun
  | [d] => { results := [.lit (.bool false)], args := [d] }
  | _ => none }
def TextsWordsWrongFalsely : Prop := textsWordsRow.holds Tryz.pinned (OpenSpec.ofChange textsWordsWrong)

/-- 'pilasterlaw15.TextsKinds': WHATEVER THE INPUT: true; the input reads as it did. -/
def textsKindsSpec : ChangeSpec := { name := "textsKinds", fn := fun _ => fun
  | [d] => { results := [.lit (.bool true)], args := [d] }
  | _ => none }
def textsKindsRow : OpenClaim := { program := "ytblpkmmhmdpkjaagreatdoor", sum := "7767f4008dbdf414dee648f0ccb5a479a8ff46ae6c69b4179fe14362cb3acce8", func := "pilaster/pilasterlaw15.TextsKinds", spec := "textsKinds", inPlace := ["internal/abi.NoEscape", "internal/bytealg.MakeNoZero"], unfollowed := true, recurses := true, named := ["pilaster/widths.table"], apart := false, laid := [("pilaster/widths.table", laid_pilaster_widths_table)] }
def TextsKindsSaid : Prop := textsKindsRow.holds Tryz.pinned (OpenSpec.ofChange textsKindsSpec)

/-- ITS FALSE NEIGHBOUR: 'it returns false'. Refute it at one input. -/
def textsKindsWrong : ChangeSpec := { name := "textsKinds", fn := fun _ => fun
  | [d] => { results := [.lit (.bool false)], args := [d] }
  | _ => none }
def TextsKindsWrongFalsely : Prop := textsKindsRow.holds Tryz.pinned (OpenSpec.ofChange textsKindsWrong)

/- THE SECOND FORM. 'bulk': how many values and letters a reading holds, each counted each time it is reached (what is shared counts as often as it is met; a slice's spare places count too). A statement '..UptoSaid' is the law's where the arguments, and the package variables that the reading takes, are together of bulk at most 1048576: NARROWER than '..Said'. Prove '..Said' where nothing that the law and all that it calls make is longer than what came in: it says more and counts as full. Else prove '..UptoSaid'. A law counts once. -/
mutual
def uptoBulk {H : Type} : DataW H → Nat
  | .lit (.string bytes) => bytes.length + 1
  | .lit _ => 1
  | .nil => 1
  | .ptr d => uptoBulk d + 1
  | .slice elems spare => uptoBulkAll elems + uptoBulkAll spare + 1
  | .agg parts => uptoBulkAll parts + 1
  | .iface _ d => uptoBulk d + 1
  | .map entries => uptoBulkEntries entries + 1
  | .held _ => 1
def uptoBulkAll {H : Type} : List (DataW H) → Nat
  | [] => 0
  | d :: r => uptoBulk d + uptoBulkAll r
def uptoBulkEntries {H : Type} : List (Lit × DataW H) → Nat
  | [] => 0
  | x :: r => uptoBulkEntry x + uptoBulkEntries r
def uptoBulkEntry {H : Type} : Lit × DataW H → Nat
  | (.string bytes, d) => bytes.length + uptoBulk d + 1
  | (_, d) => uptoBulk d + 1
 end
def uptoSmall : (H : Type) → List (DataW H) → Bool := fun _ ds => decide (uptoBulkAll ds ≤ 1048576)
def OpenSpec.upto (s : _root_.Go.ChangeSpec) : _root_.Go.OpenSpec := { _root_.Go.OpenSpec.ofChange s with cond := some uptoSmall }

/-- 'pilasterlaw15.TextsPuts', WHERE WHAT IT READS IS OF BULK AT MOST 1048576: true; the input reads as it did. -/
def textsPutsUptoRow : OpenClaim := { program := "ytblpkmmhmdpkjaagreatdoor", sum := "7767f4008dbdf414dee648f0ccb5a479a8ff46ae6c69b4179fe14362cb3acce8", func := "pilaster/pilasterlaw15.TextsPuts", spec := "textsPuts", inPlace := ["internal/abi.NoEscape", "internal/bytealg.MakeNoZero"], unfollowed := true, recurses := true, named := ["pilaster/widths.table"], apart := false, laid := [("pilaster/widths.table", laid_pilaster_widths_table)], narrowed := true }
def TextsPutsUptoSaid : Prop := textsPutsUptoRow.holds Tryz.pinned (OpenSpec.upto textsPutsSpec)

/-- 'pilasterlaw15.TextsTakes', WHERE WHAT IT READS IS OF BULK AT MOST 1048576: true; the input reads as it did. -/
def textsTakesUptoRow : OpenClaim := { program := "ytblpkmmhmdpkjaagreatdoor", sum := "7767f4008dbdf414dee648f0ccb5a479a8ff46ae6c69b4179fe14362cb3acce8", func := "pilaster/pilasterlaw15.TextsTakes", spec := "textsTakes", inPlace := ["internal/abi.NoEscape", "internal/bytealg.MakeNoZero"], unfollowed := true, recurses := true, named := ["pilaster/widths.table"], apart := false, laid := [("pilaster/widths.table", laid_pilaster_widths_table)], narrowed := true }
def TextsTakesUptoSaid : Prop := textsTakesUptoRow.holds Tryz.pinned (OpenSpec.upto textsTakesSpec)

/-- 'pilasterlaw15.TextsBack', WHERE WHAT IT READS IS OF BULK AT MOST 1048576: true; the input reads as it did. -/
def textsBackUptoRow : OpenClaim := { program := "ytblpkmmhmdpkjaagreatdoor", sum := "7767f4008dbdf414dee648f0ccb5a479a8ff46ae6c69b4179fe14362cb3acce8", func := "pilaster/pilasterlaw15.TextsBack", spec := "textsBack", inPlace := ["internal/abi.NoEscape", "internal/bytealg.MakeNoZero"], unfollowed := true, recurses := true, named := ["pilaster/widths.table"], apart := false, laid := [("pilaster/widths.table", laid_pilaster_widths_table)], narrowed := true }
def TextsBackUptoSaid : Prop := textsBackUptoRow.holds Tryz.pinned (OpenSpec.upto textsBackSpec)

/-- 'pilasterlaw15.TextsWords', WHERE WHAT IT READS IS OF BULK AT MOST 1048576: true; the input reads as it did. -/
def textsWordsUptoRow : OpenClaim := { program := "ytblpkmmhmdpkjaagreatdoor", sum := "7767f4008dbdf414dee648f0ccb5a479a8ff46ae6c69b4179fe14362cb3acce8", func := "pilaster/pilasterlaw15.TextsWords", spec := "textsWords", inPlace := ["internal/abi.NoEscape", "internal/bytealg.MakeNoZero"], unfollowed := true, recurses := true, named := ["pilaster/widths.table"], apart := false, laid := [("pilaster/widths.table", laid_pilaster_widths_table)], narrowed := true }
def TextsWordsUptoSaid : Prop := textsWordsUptoRow.holds Tryz.pinned (OpenSpec.upto textsWordsSpec)

/-- 'pilasterlaw15.TextsKinds', WHERE WHAT IT READS IS OF BULK AT MOST 1048576: true; the input reads as it did. -/
def textsKindsUptoRow : OpenClaim := { program := "ytblpkmmhmdpkjaagreatdoor", sum := "7767f4008dbdf414dee648f0ccb5a479a8ff46ae6c69b4179fe14362cb3acce8", func := "pilaster/pilasterlaw15.TextsKinds", spec := "textsKinds", inPlace := ["internal/abi.NoEscape", "internal/bytealg.MakeNoZero"], unfollowed := true, recurses := true, named := ["pilaster/widths.table"], apart := false, laid := [("pilaster/widths.table", laid_pilaster_widths_table)], narrowed := true }
def TextsKindsUptoSaid : Prop := textsKindsUptoRow.holds Tryz.pinned (OpenSpec.upto textsKindsSpec)

end Rows
end Go.Proofs.YtblpkmmhmdpkjaaGreatDoor
