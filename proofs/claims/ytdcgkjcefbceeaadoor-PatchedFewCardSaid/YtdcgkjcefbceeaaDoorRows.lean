/-
  NARROWER THAN 'FOR EVERY INPUT', by the rows' own cells (each row's printed sentence says how): PatchedPuts: laid · PatchedTakes: laid · PatchedBack: laid · PatchedFew: laid.
  DERIVED. THE GIVEN ROWS OF THIS SEAT. 4 by the template 'for every input the law returns true; each argument reads behind the call as it read before'; 0 by the template 'total and deterministic' (their statements: YtdcgkjcefbceeaaDoorTotals.lean).
  GIVEN WITH THE SEED: the statements are not yours to turn. If you find one false, say at which input.
  Laid BY PROGRAM, IN A SANDBOX (cutbox-rows.mjs): the forced cells as the released guide's own fill.sh prints them over the translation 96fc0c04946f2443… (all of the seat's roots in one cut). By AI agents, Wed Nov 11 2026. No macro, syntax, notation, axiom, sorry.
-/
import Derived.Test.YtdcgkjcefbceeaaDoorChecked
import GoSem.Claim
import GoSem.ClaimJoined
import GoSem.ClaimMapViews
import Derived.JoinedTies
import Derived.KernelRfl
namespace Go.Proofs.YtdcgkjcefbceeaaDoor
/- THE CELL 'sum', in the pinned program and in every row, IS THE sha256 OF THE DUMP (.gsa) THAT YtdcgkjcefbceeaaDoorProg.lean LOADS. Nothing in Lean hashes anything: it is a label: what it is worth is what the hold of that sum in a sandbox is worth. -/
noncomputable def Tryd.pinned : Pinned := { name := "ytdcgkjcefbceeaadoor", sum := "96fc0c04946f244332e2b5c912ca00c47377a0944c68dabf6f68d97a253b8f36", checked := Tryd.checked }
namespace Rows
def none {H : Type} : Left H := { results := [], args := [] }

/- WHAT THE LISTED PACKAGE-LEVEL VARIABLES READ AS WHEN THE CALL BEGINS. Each datum BY PROGRAM (the guide's laid-datum.mjs) off the statement by which the dump's own 'gosem.cut.vars' lays the variable. In a bare row this is a premise. The card (YtdcgkjcefbceeaaDoorCards.lean) ties it to the program's text. -/
def laid_pilaster_widths_table {H : Type} : DataW H := .agg [.lit (.int .i64 1), .lit (.int .i64 2), .lit (.int .i64 3), .lit (.int .i64 4), .lit (.int .i64 5), .lit (.int .i64 6), .lit (.int .i64 7), .lit (.int .i64 8), .lit (.int .i64 9), .lit (.int .i64 10), .lit (.int .i64 11), .lit (.int .i64 12), .lit (.int .i64 13), .lit (.int .i64 14), .lit (.int .i64 15), .lit (.int .i64 16), .lit (.int .i64 17), .lit (.int .i64 18), .lit (.int .i64 19), .lit (.int .i64 20), .lit (.int .i64 21), .lit (.int .i64 22), .lit (.int .i64 23), .lit (.int .i64 24), .lit (.int .i64 26), .lit (.int .i64 28), .lit (.int .i64 30), .lit (.int .i64 32), .lit (.int .i64 40), .lit (.int .i64 48), .lit (.int .i64 56), .lit (.int .i64 64)]

/-- 'pilasterlaw10.PatchedPuts': WHATEVER THE INPUT: true; the input reads as it did. -/
def patchedPutsSpec : ChangeSpec := { name := "patchedPuts", fn := fun _ => fun
  | [d1, d2, d3] => { results := [.lit (.bool true)], args := [d1, d2, d3] }
  | _ => none }
def patchedPutsRow : OpenClaim := { program := "ytdcgkjcefbceeaadoor", sum := "96fc0c04946f244332e2b5c912ca00c47377a0944c68dabf6f68d97a253b8f36", func := "pilaster/pilasterlaw10.PatchedPuts", spec := "patchedPuts", unfollowed := true, recurses := true, named := ["pilaster/widths.table"], apart := false, laid := [("pilaster/widths.table", laid_pilaster_widths_table)] }
def PatchedPutsSaid : Prop := patchedPutsRow.holds Tryd.pinned (OpenSpec.ofChange patchedPutsSpec)

/-- ITS FALSE NEIGHBOUR: 'it returns false'. Refute it at one input. -/
def patchedPutsWrong : ChangeSpec := { name := "patchedPuts", fn := fun _ => fun
  | [d1, d2, d3] => { results := [.lit (.bool false)], args := [d1, d2, d3] }
  | _ => none }
def PatchedPutsWrongFalsely : Prop := patchedPutsRow.holds Tryd.pinned (OpenSpec.ofChange patchedPutsWrong)

/-- 'pilasterlaw10.PatchedTakes': WHATEVER THE INPUT: true; the input reads as it did. -/
def patchedTakesSpec : ChangeSpec := { name := "patchedTakes", fn := fun _ => fun
  | [d1, d2] => { results := [.lit (.bool true)], args := [d1, d2] }
  | _ => none }
def patchedTakesRow : OpenClaim := { program := "ytdcgkjcefbceeaadoor", sum := "96fc0c04946f244332e2b5c912ca00c47377a0944c68dabf6f68d97a253b8f36", func := "pilaster/pilasterlaw10.PatchedTakes", spec := "patchedTakes", unfollowed := true, recurses := true, named := ["pilaster/widths.table"], apart := false, laid := [("pilaster/widths.table", laid_pilaster_widths_table)] }
def PatchedTakesSaid : Prop := patchedTakesRow.holds Tryd.pinned (OpenSpec.ofChange patchedTakesSpec)

/-- ITS FALSE NEIGHBOUR: 'it returns false'. Refute it at one input. -/
def patchedTakesWrong : ChangeSpec := { name := "patchedTakes", fn := fun _ => fun
  | [d1, d2] => { results := [.lit (.bool false)], args := [d1, d2] }
  | _ => none }
def PatchedTakesWrongFalsely : Prop := patchedTakesRow.holds Tryd.pinned (OpenSpec.ofChange patchedTakesWrong)

/-- 'pilasterlaw10.PatchedBack': WHATEVER THE INPUT: true; the input reads as it did. -/
def patchedBackSpec : ChangeSpec := { name := "patchedBack", fn := fun _ => fun
  | [d1, d2, d3] => { results := [.lit (.bool true)], args := [d1, d2, d3] }
  | _ => none }
def patchedBackRow : OpenClaim := { program := "ytdcgkjcefbceeaadoor", sum := "96fc0c04946f244332e2b5c912ca00c47377a0944c68dabf6f68d97a253b8f36", func := "pilaster/pilasterlaw10.PatchedBack", spec := "patchedBack", unfollowed := true, recurses := true, named := ["pilaster/widths.table"], apart := false, laid := [("pilaster/widths.table", laid_pilaster_widths_table)] }
def PatchedBackSaid : Prop := patchedBackRow.holds Tryd.pinned (OpenSpec.ofChange patchedBackSpec)

/-- ITS FALSE NEIGHBOUR: 'it returns false'. Refute it at one input. -/
def patchedBackWrong : ChangeSpec := { name := "patchedBack", fn := fun _ => fun
  | [d1, d2, d3] => { results := [.lit (.bool false)], args := [d1, d2, d3] }
  | _ => none }
def PatchedBackWrongFalsely : Prop := patchedBackRow.holds Tryd.pinned (OpenSpec.ofChange patchedBackWrong)

/-- 'pilasterlaw10.PatchedFew': WHATEVER THE INPUT: true; the input reads as it did. -/
def patchedFewSpec : ChangeSpec := { name := "patchedFew", fn := fun _ => fun
  | [d1, d2, d3] => { results := [.lit (.bool true)], args := [d1, d2, d3] }
  | _ => none }
def patchedFewRow : OpenClaim := { program := "ytdcgkjcefbceeaadoor", sum := "96fc0c04946f244332e2b5c912ca00c47377a0944c68dabf6f68d97a253b8f36", func := "pilaster/pilasterlaw10.PatchedFew", spec := "patchedFew", unfollowed := true, recurses := true, named := ["pilaster/widths.table"], apart := false, laid := [("pilaster/widths.table", laid_pilaster_widths_table)] }
def PatchedFewSaid : Prop := patchedFewRow.holds Tryd.pinned (OpenSpec.ofChange patchedFewSpec)

/-- ITS FALSE NEIGHBOUR: 'it returns false'. Refute it at one input. -/
def patchedFewWrong : ChangeSpec := { name := "patchedFew", fn := fun _ => fun
  | [d1, d2, d3] => { results := [.lit (.bool false)], args := [d1, d2, d3] }
  | _ => none }
def PatchedFewWrongFalsely : Prop := patchedFewRow.holds Tryd.pinned (OpenSpec.ofChange patchedFewWrong)

/- THE SECOND FORM. 'bulk': how many values and letters a reading holds, each counted each time it is reached (what is shared counts as often as it is met; a slice's spare places count too). A statement '..UptoSaid' is the law's where the arguments, and the package variables that the reading takes, are together of bulk at most 1048576: NARROWER than '..Said'. Prove '..Said' where nothing that the law and all that it calls make is longer than what came in: it says more and counts as full. Else prove '..UptoSaid'. A law counts once. -/
mutual
def uptoBulk {H : Type} : DataW H → Nat
  | .lit (.string bytes) => bytes.length + 1
  | .lit _ => 1
  | .nil => 1
  | .ptr d => uptoBulk d + 1
  | .slice elems spare => uptoBulkAll elems + uptoBulkAll spare + 1
  | .agg parts => uptoBulkAll parts + 1
  | .iface _ d => uptoBulk d + 1
  | .map entries => uptoBulkEntries entries + 1
  | .held _ => 1
def uptoBulkAll {H : Type} : List (DataW H) → Nat
  | [] => 0
  | d :: r => uptoBulk d + uptoBulkAll r
def uptoBulkEntries {H : Type} : List (Lit × DataW H) → Nat
  | [] => 0
  | x :: r => uptoBulkEntry x + uptoBulkEntries r
def uptoBulkEntry {H : Type} : Lit × DataW H → Nat
  | (.string bytes, d) => bytes.length + uptoBulk d + 1
  | (_, d) => uptoBulk d + 1
 end
def uptoSmall : (H : Type) → List (DataW H) → Bool := fun _ ds => decide (uptoBulkAll ds ≤ 1048576)
def OpenSpec.upto (s : _root_.Go.ChangeSpec) : _root_.Go.OpenSpec := { _root_.Go.OpenSpec.ofChange s with cond := some uptoSmall }

/-- 'pilasterlaw10.PatchedPuts', WHERE WHAT IT READS IS OF BULK AT MOST 1048576: true; the input reads as it did. -/
def patchedPutsUptoRow : OpenClaim := { program := "ytdcgkjcefbceeaadoor", sum := "96fc0c04946f244332e2b5c912ca00c47377a0944c68dabf6f68d97a253b8f36", func := "pilaster/pilasterlaw10.PatchedPuts", spec := "patchedPuts", unfollowed := true, recurses := true, named := ["pilaster/widths.table"], apart := false, laid := [("pilaster/widths.table", laid_pilaster_widths_table)], narrowed := true }
def PatchedPutsUptoSaid : Prop := patchedPutsUptoRow.holds Tryd.pinned (OpenSpec.upto patchedPutsSpec)

/-- 'pilasterlaw10.PatchedTakes', WHERE WHAT IT READS IS OF BULK AT MOST 1048576: true; the input reads as it did. -/
def patchedTakesUptoRow : OpenClaim := { program := "ytdcgkjcefbceeaadoor", sum := "96fc0c04946f244332e2b5c912ca00c47377a0944c68dabf6f68d97a253b8f36", func := "pilaster/pilasterlaw10.PatchedTakes", spec := "patchedTakes", unfollowed := true, recurses := true, named := ["pilaster/widths.table"], apart := false, laid := [("pilaster/widths.table", laid_pilaster_widths_table)], narrowed := true }
def PatchedTakesUptoSaid : Prop := patchedTakesUptoRow.holds Tryd.pinned (OpenSpec.upto patchedTakesSpec)

/-- 'pilasterlaw10.PatchedBack', WHERE WHAT IT READS IS OF BULK AT MOST 1048576: true; the input reads as it did. -/
def patchedBackUptoRow : OpenClaim := { program := "ytdcgkjcefbceeaadoor", sum := "96fc0c04946f244332e2b5c912ca00c47377a0944c68dabf6f68d97a253b8f36", func := "pilaster/pilasterlaw10.PatchedBack", spec := "patchedBack", unfollowed := true, recurses := true, named := ["pilaster/widths.table"], apart := false, laid := [("pilaster/widths.table", laid_pilaster_widths_table)], narrowed := true }
def PatchedBackUptoSaid : Prop := patchedBackUptoRow.holds Tryd.pinned (OpenSpec.upto patchedBackSpec)

/-- 'pilasterlaw10.PatchedFew', WHERE WHAT IT READS IS OF BULK AT MOST 1048576: true; the input reads as it did. -/
def patchedFewUptoRow : OpenClaim := { program := "ytdcgkjcefbceeaadoor", sum := "96fc0c04946f244332e2b5c912ca00c47377a0944c68dabf6f68d97a253b8f36", func := "pilaster/pilasterlaw10.PatchedFew", spec := "patchedFew", unfollowed := true, recurses := true, named := ["pilaster/widths.table"], apart := false, laid := [("pilaster/widths.table", laid_pilaster_widths_table)], narrowed := true }
def PatchedFewUptoSaid : Prop := patchedFewUptoRow.holds Tryd.pinned (OpenSpec.upto patchedFewSpec)

end Rows
end Go.Proofs.YtdcgkjcefbceeaaDoor
