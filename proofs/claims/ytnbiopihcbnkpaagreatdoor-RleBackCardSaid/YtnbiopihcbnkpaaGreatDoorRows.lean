/-
  NARROWER THAN 'FOR EVERY INPUT', by the rows' own cells (each row's printed sentence says how): RleRuns: laid · RlePuts: laid · RleTakes: laid · RleBack: laid.
  DERIVED. THE GIVEN ROWS OF THIS SEAT. 4 by the template 'for every input the law returns true; each argument reads behind the call as it read before'; 0 by the template 'total and deterministic' (their statements: YtnbiopihcbnkpaaGreatDoorTotals.lean).
  GIVEN WITH THE SEED: the statements are not yours to turn. If you find one false, say at which input.
  Laid BY PROGRAM, IN A SANDBOX (cutbox-rows.mjs): the forced cells as the released guide's own fill.sh prints them over the translation 7134b10a8c6518d2… (all of the seat's roots in one cut). By AI agents, Wed Nov 11 2026. No macro, syntax, notation, axiom, sorry.
-/
import Derived.Test.YtnbiopihcbnkpaaGreatDoorChecked
import GoSem.Claim
import GoSem.ClaimJoined
import GoSem.ClaimMapViews
import Derived.JoinedTies
import Derived.KernelRfl
namespace Go.Proofs.YtnbiopihcbnkpaaGreatDoor
/- THE CELL 'sum', in the pinned program and in every row, IS THE sha256 OF THE DUMP (.gsa) THAT YtnbiopihcbnkpaaGreatDoorProg.lean LOADS. Nothing in Lean hashes anything: it is a label: what it is worth is what the hold of that sum in a sandbox is worth. -/
noncomputable def Tryz.pinned : Pinned := { name := "ytnbiopihcbnkpaagreatdoor", sum := "7134b10a8c6518d236e1ebfaaccb5bfe4cbf570bf7e7cdd37b9e6bbf1c9cac1b", checked := Tryz.checked }
namespace Rows
def none {H : Type} : Left H := { results := [], args := [] }

/- WHAT THE LISTED PACKAGE-LEVEL VARIABLES READ AS WHEN THE CALL BEGINS. Each datum BY PROGRAM (the guide's laid-datum.mjs) off the statement by which the dump's own 'gosem.cut.vars' lays the variable. In a bare row this is a premise. The card (YtnbiopihcbnkpaaGreatDoorCards.lean) ties it to the program's text. -/
def laid_pilaster_widths_table {H : Type} : DataW H := .agg [.lit (.int .i64 1), .lit (.int .i64 2), .lit (.int .i64 3), .lit (.int .i64 4), .lit (.int .i64 5), .lit (.int .i64 6), .lit (.int .i64 7), .lit (.int .i64 8), .lit (.int .i64 9), .lit (.int .i64 10), .lit (.int .i64 11), .lit (.int .i64 12), .lit (.int .i64 13), .lit (.int .i64 14), .lit (.int .i64 15), .lit (.int .i64 16), .lit (.int .i64 17), .lit (.int .i64 18), .lit (.int .i64 19), .lit (.int .i64 20), .lit (.int .i64 21), .lit (.int .i64 22), .lit (.int .i64 23), .lit (.int .i64 24), .lit (.int .i64 26), .lit (.int .i64 28), .lit (.int .i64 30), .lit (.int .i64 32), .lit (.int .i64 40), .lit (.int .i64 48), .lit (.int .i64 56), .lit (.int .i64 64)]

/-- 'pilasterlaw11.RleRuns': WHATEVER THE INPUT: true; the input reads as it did. -/
def rleRunsSpec : ChangeSpec := { name := "rleRuns", fn := fun _ => fun
  | [d1, d2] => { results := [.lit (.bool true)], args := [d1, d2] }
  | _ => none }
def rleRunsRow : OpenClaim := { program := "ytnbiopihcbnkpaagreatdoor", sum := "7134b10a8c6518d236e1ebfaaccb5bfe4cbf570bf7e7cdd37b9e6bbf1c9cac1b", func := "pilaster/pilasterlaw11.RleRuns", spec := "rleRuns", unfollowed := true, recurses := true, named := ["pilaster/widths.table"], apart := false, laid := [("pilaster/widths.table", laid_pilaster_widths_table)] }
def RleRunsSaid : Prop := rleRunsRow.holds Tryz.pinned (OpenSpec.ofChange rleRunsSpec)

/-- ITS FALSE NEIGHBOUR: 'it returns false'. Refute it at one input. -/
def rleRunsWrong : ChangeSpec := { name := "rleRuns", fn := fun _ => fun
  | [d1, d2] => { results := [.lit (.bool false)], args := [d1, d2] }
  | _ => none }
def RleRunsWrongFalsely : Prop := rleRunsRow.holds Tryz.pinned (OpenSpec.ofChange rleRunsWrong)

/-- 'pilasterlaw11.RlePuts': WHATEVER THE INPUT: true; the input reads as it did. -/
def rlePutsSpec : ChangeSpec := { name := "rlePuts", fn := fun _ => fun
  | [d1, d2] => { results := [.lit (.bool true)], args := [d1, d2] }
  | _ => none }
def rlePutsRow : OpenClaim := { program := "ytnbiopihcbnkpaagreatdoor", sum := "7134b10a8c6518d236e1ebfaaccb5bfe4cbf570bf7e7cdd37b9e6bbf1c9cac1b", func := "pilaster/pilasterlaw11.RlePuts", spec := "rlePuts", unfollowed := true, recurses := true, named := ["pilaster/widths.table"], apart := false, laid := [("pilaster/widths.table", laid_pilaster_widths_table)] }
def RlePutsSaid : Prop := rlePutsRow.holds Tryz.pinned (OpenSpec.ofChange rlePutsSpec)

/-- ITS FALSE NEIGHBOUR: 'it returns false'. Refute it at one input. -/
def rlePutsWrong : ChangeSpec := { name := "rlePuts", fn := fun _ => fun
  | [d1, d2] => { results := [.lit (.bool false)], args := [d1, d2] }
  | _ => none }
def RlePutsWrongFalsely : Prop := rlePutsRow.holds Tryz.pinned (OpenSpec.ofChange rlePutsWrong)

/-- 'pilasterlaw11.RleTakes': WHATEVER THE INPUT: true; the input reads as it did. -/
def rleTakesSpec : ChangeSpec := { name := "rleTakes", fn := fun _ => fun
  | [d1, d2, d3] => { results := [.lit (.bool true)], args := [d1, d2, d3] }
  | _ => none }
def rleTakesRow : OpenClaim := { program := "ytnbiopihcbnkpaagreatdoor", sum := "7134b10a8c6518d236e1ebfaaccb5bfe4cbf570bf7e7cdd37b9e6bbf1c9cac1b", func := "pilaster/pilasterlaw11.RleTakes", spec := "rleTakes", unfollowed := true, recurses := true, named := ["pilaster/widths.table"], apart := false, laid := [("pilaster/widths.table", laid_pilaster_widths_table)] }
def RleTakesSaid : Prop := rleTakesRow.holds Tryz.pinned (OpenSpec.ofChange rleTakesSpec)

/-- ITS FALSE NEIGHBOUR: 'it returns false'. Refute it at one input. -/
def rleTakesWrong : ChangeSpec := { name := "rleTakes", fn := fun _ => fun
  | [d1, d2, d3] => { results := [.lit (.bool false)], args := [d1, d2, d3] }
  | _ => none }
def RleTakesWrongFalsely : Prop := rleTakesRow.holds Tryz.pinned (OpenSpec.ofChange rleTakesWrong)

/-- 'pilasterlaw11.RleBack': WHATEVER THE INPUT: true; the input reads as it did. -/
def rleBackSpec : ChangeSpec := { name := "rleBack", fn := fun _ => fun
  | [d1, d2, d3] => { results := [.lit (.bool true)], args := [d1, d2, d3] }
  | _ => none }
def rleBackRow : OpenClaim := { program := "ytnbiopihcbnkpaagreatdoor", sum := "7134b10a8c6518d236e1ebfaaccb5bfe4cbf570bf7e7cdd37b9e6bbf1c9cac1b", func := "pilaster/pilasterlaw11.RleBack", spec := "rleBack", unfollowed := true, recurses := true, named := ["pilaster/widths.table"], apart := false, laid := [("pilaster/widths.table", laid_pilaster_widths_table)] }
def RleBackSaid : Prop := rleBackRow.holds Tryz.pinned (OpenSpec.ofChange rleBackSpec)

/-- ITS FALSE NEIGHBOUR: 'it returns false'. Refute it at one input. -/
def rleBackWrong : ChangeSpec := { name := "rleBack", fn := fun _ => fun
  | [d1, d2, d3] => { results := [.lit (.bool false)], args := [d1, d2, d3] }
  | _ => none }
def RleBackWrongFalsely : Prop := rleBackRow.holds Tryz.pinned (OpenSpec.ofChange rleBackWrong)

/- THE SECOND FORM. 'bulk': how many values and letters a reading holds, each counted each time it is reached (what is shared counts as often as it is met; a slice's spare places count too). A statement '..UptoSaid' is the law's where the arguments, and the package variables that the reading takes, are together of bulk at most 1048576: NARROWER than '..Said'. Prove '..Said' where nothing that the law and all that it calls make is longer than what came in: it says more and counts as full. Else prove '..UptoSaid'. A law counts once. -/
mutual
def uptoBulk {H : Type} : DataW H → Nat
  | .lit (.string bytes) => bytes.length + 1
  | .lit _ => 1
  | .nil => 1
  | .ptr d => uptoBulk d + 1
  | .slice elems spare => uptoBulkAll elems + uptoBulkAll spare + 1
  | .agg parts => uptoBulkAll parts + 1
  | .iface _ d => uptoBulk d + 1
  | .map entries => uptoBulkEntries entries + 1
  | .held _ => 1
def uptoBulkAll {H : Type} : List (DataW H) → Nat
  | [] => 0
  | d :: r => uptoBulk d + uptoBulkAll r
def uptoBulkEntries {H : Type} : List (Lit × DataW H) → Nat
  | [] => 0
  | x :: r => uptoBulkEntry x + uptoBulkEntries r
def uptoBulkEntry {H : Type} : Lit × DataW H → Nat
  | (.string bytes, d) => bytes.length + uptoBulk d + 1
  | (_, d) => uptoBulk d + 1
 end
def uptoSmall : (H : Type) → List (DataW H) → Bool := fun _ ds => decide (uptoBulkAll ds ≤ 1048576)
def OpenSpec.upto (s : _root_.Go.ChangeSpec) : _root_.Go.OpenSpec := { _root_.Go.OpenSpec.ofChange s with cond := some uptoSmall }

/-- 'pilasterlaw11.RleRuns', WHERE WHAT IT READS IS OF BULK AT MOST 1048576: true; the input reads as it did. -/
def rleRunsUptoRow : OpenClaim := { program := "ytnbiopihcbnkpaagreatdoor", sum := "7134b10a8c6518d236e1ebfaaccb5bfe4cbf570bf7e7cdd37b9e6bbf1c9cac1b", func := "pilaster/pilasterlaw11.RleRuns", spec := "rleRuns", unfollowed := true, recurses := true, named := ["pilaster/widths.table"], apart := false, laid := [("pilaster/widths.table", laid_pilaster_widths_table)], narrowed := true }
def RleRunsUptoSaid : Prop := rleRunsUptoRow.holds Tryz.pinned (OpenSpec.upto rleRunsSpec)

/-- 'pilasterlaw11.RlePuts', WHERE WHAT IT READS IS OF BULK AT MOST 1048576: true; the input reads as it did. -/
def rlePutsUptoRow : OpenClaim := { program := "ytnbiopihcbnkpaagreatdoor", sum := "7134b10a8c6518d236e1ebfaaccb5bfe4cbf570bf7e7cdd37b9e6bbf1c9cac1b", func := "pilaster/pilasterlaw11.RlePuts", spec := "rlePuts", unfollowed := true, recurses := true, named := ["pilaster/widths.table"], apart := false, laid := [("pilaster/widths.table", laid_pilaster_widths_table)], narrowed := true }
def RlePutsUptoSaid : Prop := rlePutsUptoRow.holds Tryz.pinned (OpenSpec.upto rlePutsSpec)

/-- 'pilasterlaw11.RleTakes', WHERE WHAT IT READS IS OF BULK AT MOST 1048576: true; the input reads as it did. -/
def rleTakesUptoRow : OpenClaim := { program := "ytnbiopihcbnkpaagreatdoor", sum := "7134b10a8c6518d236e1ebfaaccb5bfe4cbf570bf7e7cdd37b9e6bbf1c9cac1b", func := "pilaster/pilasterlaw11.RleTakes", spec := "rleTakes", unfollowed := true, recurses := true, named := ["pilaster/widths.table"], apart := false, laid := [("pilaster/widths.table", laid_pilaster_widths_table)], narrowed := true }
def RleTakesUptoSaid : Prop := rleTakesUptoRow.holds Tryz.pinned (OpenSpec.upto rleTakesSpec)

/-- 'pilasterlaw11.RleBack', WHERE WHAT IT READS IS OF BULK AT MOST 1048576: true; the input reads as it did. -/
def rleBackUptoRow : OpenClaim := { program := "ytnbiopihcbnkpaagreatdoor", sum := "7134b10a8c6518d236e1ebfaaccb5bfe4cbf570bf7e7cdd37b9e6bbf1c9cac1b", func := "pilaster/pilasterlaw11.RleBack", spec := "rleBack", unfollowed := true, recurses := true, named := ["pilaster/widths.table"], apart := false, laid := [("pilaster/widths.table", laid_pilaster_widths_table)], narrowed := true }
def RleBackUptoSaid : Prop := rleBackUptoRow.holds Tryz.pinned (OpenSpec.upto rleBackSpec)

end Rows
end Go.Proofs.YtnbiopihcbnkpaaGreatDoor
