/-
  NARROWER THAN 'FOR EVERY INPUT', by the rows' own cells (each row's printed sentence says how): DirectHeads: laid · DirectPlain: laid · DirectPuts: laid · DirectTakes: laid · DirectBack: laid.
  DERIVED. THE GIVEN ROWS OF THIS SEAT. 5 by the template 'for every input the law returns true; each argument reads behind the call as it read before'; 0 by the template 'total and deterministic' (their statements: YtiapopaggpnceaaDoorTotals.lean).
  GIVEN WITH THE SEED: the statements are not yours to turn. If you find one false, say at which input.
  Laid BY PROGRAM, IN A SANDBOX (cutbox-rows.mjs): the forced cells as the released guide's own fill.sh prints them over the translation a876ad480be89d38… (all of the seat's roots in one cut). By AI agents, Wed Nov 11 2026. No macro, syntax, notation, axiom, sorry.
-/
import Derived.Test.YtiapopaggpnceaaDoorChecked
import GoSem.Claim
import GoSem.ClaimJoined
import GoSem.ClaimMapViews
import Derived.JoinedTies
import Derived.KernelRfl
namespace Go.Proofs.YtiapopaggpnceaaDoor
/- THE CELL 'sum', in the pinned program and in every row, IS THE sha256 OF THE DUMP (.gsa) THAT YtiapopaggpnceaaDoorProg.lean LOADS. Nothing in Lean hashes anything: it is a label: what it is worth is what the hold of that sum in a sandbox is worth. -/
noncomputable def Tryd.pinned : Pinned := { name := "ytiapopaggpnceaadoor", sum := "a876ad480be89d38838775bace25678b0a6b52cde0f6deda4f731571adc52d27", checked := Tryd.checked }
namespace Rows
def none {H : Type} : Left H := { results := [], args := [] }

/- WHAT THE LISTED PACKAGE-LEVEL VARIABLES READ AS WHEN THE CALL BEGINS. Each datum BY PROGRAM (the guide's laid-datum.mjs) off the statement by which the dump's own 'gosem.cut.vars' lays the variable. In a bare row this is a premise. The card (YtiapopaggpnceaaDoorCards.lean) ties it to the program's text. -/
def laid_pilaster_widths_table {H : Type} : DataW H := .agg [.lit (.int .i64 1), .lit (.int .i64 2), .lit (.int .i64 3), .lit (.int .i64 4), .lit (.int .i64 5), .lit (.int .i64 6), .lit (.int .i64 7), .lit (.int .i64 8), .lit (.int .i64 9), .lit (.int .i64 10), .lit (.int .i64 11), .lit (.int .i64 12), .lit (.int .i64 13), .lit (.int .i64 14), .lit (.int .i64 15), .lit (.int .i64 16), .lit (.int .i64 17), .lit (.int .i64 18), .lit (.int .i64 19), .lit (.int .i64 20), .lit (.int .i64 21), .lit (.int .i64 22), .lit (.int .i64 23), .lit (.int .i64 24), .lit (.int .i64 26), .lit (.int .i64 28), .lit (.int .i64 30), .lit (.int .i64 32), .lit (.int .i64 40), .lit (.int .i64 48), .lit (.int .i64 56), .lit (.int .i64 64)]

/-- 'pilasterlaw08.DirectHeads': WHATEVER THE INPUT: true; the input reads as it did. -/
def directHeadsSpec : ChangeSpec := { name := "directHeads", fn := fun _ => fun
  | [d1, d2] => { results := [.lit (.bool true)], args := [d1, d2] }
  | _ => none }
def directHeadsRow : OpenClaim := { program := "ytiapopaggpnceaadoor", sum := "a876ad480be89d38838775bace25678b0a6b52cde0f6deda4f731571adc52d27", func := "pilaster/pilasterlaw08.DirectHeads", spec := "directHeads", unfollowed := true, recurses := true, named := ["pilaster/widths.table"], apart := false, laid := [("pilaster/widths.table", laid_pilaster_widths_table)] }
def DirectHeadsSaid : Prop := directHeadsRow.holds Tryd.pinned (OpenSpec.ofChange directHeadsSpec)

/-- ITS FALSE NEIGHBOUR: 'it returns false'. Refute it at one input. -/
def directHeadsWrong : ChangeSpec := { name := "directHeads", fn := fun _ => fun
  | [d1, d2] => { results := [.lit (.bool false)], args := [d1, d2] }
  | _ => none }
def DirectHeadsWrongFalsely : Prop := directHeadsRow.holds Tryd.pinned (OpenSpec.ofChange directHeadsWrong)

/-- 'pilasterlaw08.DirectPlain': WHATEVER THE INPUT: true; the input reads as it did. -/
def directPlainSpec : ChangeSpec := { name := "directPlain", fn := fun _ => fun
  | [d1, d2, d3] => { results := [.lit (.bool true)], args := [d1, d2, d3] }
  | _ => none }
def directPlainRow : OpenClaim := { program := "ytiapopaggpnceaadoor", sum := "a876ad480be89d38838775bace25678b0a6b52cde0f6deda4f731571adc52d27", func := "pilaster/pilasterlaw08.DirectPlain", spec := "directPlain", unfollowed := true, recurses := true, named := ["pilaster/widths.table"], apart := false, laid := [("pilaster/widths.table", laid_pilaster_widths_table)] }
def DirectPlainSaid : Prop := directPlainRow.holds Tryd.pinned (OpenSpec.ofChange directPlainSpec)

/-- ITS FALSE NEIGHBOUR: 'it returns false'. Refute it at one input. -/
def directPlainWrong : ChangeSpec := { name := "directPlain", fn := fun _ => fun
  | [d1, d2, d3] => { results := [.lit (.bool false)], args := [d1, d2, d3] }
  | _ => none }
def DirectPlainWrongFalsely : Prop := directPlainRow.holds Tryd.pinned (OpenSpec.ofChange directPlainWrong)

/-- 'pilasterlaw08.DirectPuts': WHATEVER THE INPUT: true; the input reads as it did. -/
def directPutsSpec : ChangeSpec := { name := "directPuts", fn := fun _ => fun
  | [d1, d2] => { results := [.lit (.bool true)], args := [d1, d2] }
  | _ => none }
def directPutsRow : OpenClaim := { program := "ytiapopaggpnceaadoor", sum := "a876ad480be89d38838775bace25678b0a6b52cde0f6deda4f731571adc52d27", func := "pilaster/pilasterlaw08.DirectPuts", spec := "directPuts", unfollowed := true, recurses := true, named := ["pilaster/widths.table"], apart := false, laid := [("pilaster/widths.table", laid_pilaster_widths_table)] }
def DirectPutsSaid : Prop := directPutsRow.holds Tryd.pinned (OpenSpec.ofChange directPutsSpec)

/-- ITS FALSE NEIGHBOUR: 'it returns false'. Refute it at one input. -/
def directPutsWrong : ChangeSpec := { name := "directPuts", fn := fun _ => fun
  | [d1, d2] => { results := [.lit (.bool false)], args := [d1, d2] }
  | _ => none }
def DirectPutsWrongFalsely : Prop := directPutsRow.holds Tryd.pinned (OpenSpec.ofChange directPutsWrong)

/-- 'pilasterlaw08.DirectTakes': WHATEVER THE INPUT: true; the input reads as it did. -/
def directTakesSpec : ChangeSpec := { name := "directTakes", fn := fun _ => fun
  | [d1, d2] => { results := [.lit (.bool true)], args := [d1, d2] }
  | _ => none }
def directTakesRow : OpenClaim := { program := "ytiapopaggpnceaadoor", sum := "a876ad480be89d38838775bace25678b0a6b52cde0f6deda4f731571adc52d27", func := "pilaster/pilasterlaw08.DirectTakes", spec := "directTakes", unfollowed := true, recurses := true, named := ["pilaster/widths.table"], apart := false, laid := [("pilaster/widths.table", laid_pilaster_widths_table)] }
def DirectTakesSaid : Prop := directTakesRow.holds Tryd.pinned (OpenSpec.ofChange directTakesSpec)

/-- ITS FALSE NEIGHBOUR: 'it returns false'. Refute it at one input. -/
def directTakesWrong : ChangeSpec := { name := "directTakes", fn := fun _ => fun
  | [d1, d2] => { results := [.lit (.bool false)], args := [d1, d2] }
  | _ => none }
def DirectTakesWrongFalsely : Prop := directTakesRow.holds Tryd.pinned (OpenSpec.ofChange directTakesWrong)

/-- 'pilasterlaw08.DirectBack': WHATEVER THE INPUT: true; the input reads as it did. -/
def directBackSpec : ChangeSpec := { name := "directBack", fn := fun _ => fun
  | [d1, d2, d3] => { results := [.lit (.bool true)], args := [d1, d2, d3] }
  | _ => none }
def directBackRow : OpenClaim := { program := "ytiapopaggpnceaadoor", sum := "a876ad480be89d38838775bace25678b0a6b52cde0f6deda4f731571adc52d27", func := "pilaster/pilasterlaw08.DirectBack", spec := "directBack", unfollowed := true, recurses := true, named := ["pilaster/widths.table"], apart := false, laid := [("pilaster/widths.table", laid_pilaster_widths_table)] }
def DirectBackSaid : Prop := directBackRow.holds Tryd.pinned (OpenSpec.ofChange directBackSpec)

/-- ITS FALSE NEIGHBOUR: 'it returns false'. Refute it at one input. -/
def directBackWrong : ChangeSpec := { name := "directBack", fn := fun _ => fun
  | [d1, d2, d3] => { results := [.lit (.bool false)], args := [d1, d2, d3] }
  | _ => none }
def DirectBackWrongFalsely : Prop := directBackRow.holds Tryd.pinned (OpenSpec.ofChange directBackWrong)

/- THE SECOND FORM. 'bulk': how many values and letters a reading holds, each counted each time it is reached (what is shared counts as often as it is met; a slice's spare places count too). A statement '..UptoSaid' is the law's where the arguments, and the package variables that the reading takes, are together of bulk at most 1048576: NARROWER than '..Said'. Prove '..Said' where nothing that the law and all that it calls make is longer than what came in: it says more and counts as full. Else prove '..UptoSaid'. A law counts once. -/
mutual
def uptoBulk {H : Type} : DataW H → Nat
  | .lit (.string bytes) => bytes.length + 1
  | .lit _ => 1
  | .nil => 1
  | .ptr d => uptoBulk d + 1
  | .slice elems spare => uptoBulkAll elems + uptoBulkAll spare + 1
  | .agg parts => uptoBulkAll parts + 1
  | .iface _ d => uptoBulk d + 1
  | .map entries => uptoBulkEntries entries + 1
  | .held _ => 1
def uptoBulkAll {H : Type} : List (DataW H) → Nat
  | [] => 0
  | d :: r => uptoBulk d + uptoBulkAll r
def uptoBulkEntries {H : Type} : List (Lit × DataW H) → Nat
  | [] => 0
  | x :: r => uptoBulkEntry x + uptoBulkEntries r
def uptoBulkEntry {H : Type} : Lit × DataW H → Nat
  | (.string bytes, d) => bytes.length + uptoBulk d + 1
  | (_, d) => uptoBulk d + 1
 end
def uptoSmall : (H : Type) → List (DataW H) → Bool := fun _ ds => decide (uptoBulkAll ds ≤ 1048576)
def OpenSpec.upto (s : _root_.Go.ChangeSpec) : _root_.Go.OpenSpec := { _root_.Go.OpenSpec.ofChange s with cond := some uptoSmall }

/-- 'pilasterlaw08.DirectHeads', WHERE WHAT IT READS IS OF BULK AT MOST 1048576: true; the input reads as it did. -/
def directHeadsUptoRow : OpenClaim := { program := "ytiapopaggpnceaadoor", sum := "a876ad480be89d38838775bace25678b0a6b52cde0f6deda4f731571adc52d27", func := "pilaster/pilasterlaw08.DirectHeads", spec := "directHeads", unfollowed := true, recurses := true, named := ["pilaster/widths.table"], apart := false, laid := [("pilaster/widths.table", laid_pilaster_widths_table)], narrowed := true }
def DirectHeadsUptoSaid : Prop := directHeadsUptoRow.holds Tryd.pinned (OpenSpec.upto directHeadsSpec)

/-- 'pilasterlaw08.DirectPlain', WHERE WHAT IT READS IS OF BULK AT MOST 1048576: true; the input reads as it did. -/
def directPlainUptoRow : OpenClaim := { program := "ytiapopaggpnceaadoor", sum := "a876ad480be89d38838775bace25678b0a6b52cde0f6deda4f731571adc52d27", func := "pilaster/pilasterlaw08.DirectPlain", spec := "directPlain", unfollowed := true, recurses := true, named := ["pilaster/widths.table"], apart := false, laid := [("pilaster/widths.table", laid_pilaster_widths_table)], narrowed := true }
def DirectPlainUptoSaid : Prop := directPlainUptoRow.holds Tryd.pinned (OpenSpec.upto directPlainSpec)

/-- 'pilasterlaw08.DirectPuts', WHERE WHAT IT READS IS OF BULK AT MOST 1048576: true; the input reads as it did. -/
def directPutsUptoRow : OpenClaim := { program := "ytiapopaggpnceaadoor", sum := "a876ad480be89d38838775bace25678b0a6b52cde0f6deda4f731571adc52d27", func := "pilaster/pilasterlaw08.DirectPuts", spec := "directPuts", unfollowed := true, recurses := true, named := ["pilaster/widths.table"], apart := false, laid := [("pilaster/widths.table", laid_pilaster_widths_table)], narrowed := true }
def DirectPutsUptoSaid : Prop := directPutsUptoRow.holds Tryd.pinned (OpenSpec.upto directPutsSpec)

/-- 'pilasterlaw08.DirectTakes', WHERE WHAT IT READS IS OF BULK AT MOST 1048576: true; the input reads as it did. -/
def directTakesUptoRow : OpenClaim := { program := "ytiapopaggpnceaadoor", sum := "a876ad480be89d38838775bace25678b0a6b52cde0f6deda4f731571adc52d27", func := "pilaster/pilasterlaw08.DirectTakes", spec := "directTakes", unfollowed := true, recurses := true, named := ["pilaster/widths.table"], apart := false, laid := [("pilaster/widths.table", laid_pilaster_widths_table)], narrowed := true }
def DirectTakesUptoSaid : Prop := directTakesUptoRow.holds Tryd.pinned (OpenSpec.upto directTakesSpec)

/-- 'pilasterlaw08.DirectBack', WHERE WHAT IT READS IS OF BULK AT MOST 1048576: true; the input reads as it did. -/
def directBackUptoRow : OpenClaim := { program := "ytiapopaggpnceaadoor", sum := "a876ad480be89d38838775bace25678b0a6b52cde0f6deda4f731571adc52d27", func := "pilaster/pilasterlaw08.DirectBack", spec := "directBack", unfollowed := true, recurses := true, named := ["pilaster/widths.table"], apart := false, laid := [("pilaster/widths.table", laid_pilaster_widths_table)], narrowed := true }
def DirectBackUptoSaid : Prop := directBackUptoRow.holds Tryd.pinned (OpenSpec.upto directBackSpec)

end Rows
end Go.Proofs.YtiapopaggpnceaaDoor
