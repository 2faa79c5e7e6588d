/-
  NARROWER THAN 'FOR EVERY INPUT', by the rows' own cells (each row's printed sentence says how): WidthsCodes: laid · WidthsBits: laid · WidthsBack: laid · WidthsRoom: laid · WidthsRise: laid.
  DERIVED. THE GIVEN ROWS OF THIS SEAT. 5 by the template 'for every input the law returns true; each argument reads behind the call as it read before'; 0 by the template 'total and deterministic' (their statements: YtgngdfgfjghbbaaDoorTotals.lean).
  GIVEN WITH THE SEED: the statements are not yours to turn. If you find one false, say at which input.
  Laid BY PROGRAM, IN A SANDBOX (cutbox-rows.mjs): the forced cells as the released guide's own fill.sh prints them over the translation e7cada7731245975… (all of the seat's roots in one cut). By AI agents, Wed Nov 11 2026. No macro, syntax, notation, axiom, sorry.
-/
import Derived.Test.YtgngdfgfjghbbaaDoorChecked
import GoSem.Claim
import GoSem.ClaimJoined
import GoSem.ClaimMapViews
import Derived.JoinedTies
import Derived.KernelRfl
namespace Go.Proofs.YtgngdfgfjghbbaaDoor
/- THE CELL 'sum', in the pinned program and in every row, IS THE sha256 OF THE DUMP (.gsa) THAT YtgngdfgfjghbbaaDoorProg.lean LOADS. Nothing in Lean hashes anything: it is a label: what it is worth is what the hold of that sum in a sandbox is worth. -/
noncomputable def Tryd.pinned : Pinned := { name := "ytgngdfgfjghbbaadoor", sum := "e7cada7731245975b0ca3c67921732ad30f392eb28b3ac62058b05c10c7da485", checked := Tryd.checked }
namespace Rows
def none {H : Type} : Left H := { results := [], args := [] }

/- WHAT THE LISTED PACKAGE-LEVEL VARIABLES READ AS WHEN THE CALL BEGINS. Each datum BY PROGRAM (the guide's laid-datum.mjs) off the statement by which the dump's own 'gosem.cut.vars' lays the variable. In a bare row this is a premise. The card (YtgngdfgfjghbbaaDoorCards.lean) ties it to the program's text. -/
def laid_pilaster_widths_table {H : Type} : DataW H := .agg [.lit (.int .i64 1), .lit (.int .i64 2), .lit (.int .i64 3), .lit (.int .i64 4), .lit (.int .i64 5), .lit (.int .i64 6), .lit (.int .i64 7), .lit (.int .i64 8), .lit (.int .i64 9), .lit (.int .i64 10), .lit (.int .i64 11), .lit (.int .i64 12), .lit (.int .i64 13), .lit (.int .i64 14), .lit (.int .i64 15), .lit (.int .i64 16), .lit (.int .i64 17), .lit (.int .i64 18), .lit (.int .i64 19), .lit (.int .i64 20), .lit (.int .i64 21), .lit (.int .i64 22), .lit (.int .i64 23), .lit (.int .i64 24), .lit (.int .i64 26), .lit (.int .i64 28), .lit (.int .i64 30), .lit (.int .i64 32), .lit (.int .i64 40), .lit (.int .i64 48), .lit (.int .i64 56), .lit (.int .i64 64)]

/-- 'pilasterlaw02.WidthsCodes': WHATEVER THE INPUT: true; the input reads as it did. -/
def widthsCodesSpec : ChangeSpec := { name := "widthsCodes", fn := fun _ => fun
  | [d1, d2, d3] => { results := [.lit (.bool true)], args := [d1, d2, d3] }
  | _ => none }
def widthsCodesRow : OpenClaim := { program := "ytgngdfgfjghbbaadoor", sum := "e7cada7731245975b0ca3c67921732ad30f392eb28b3ac62058b05c10c7da485", func := "pilaster/pilasterlaw02.WidthsCodes", spec := "widthsCodes", named := ["pilaster/widths.table"], apart := false, laid := [("pilaster/widths.table", laid_pilaster_widths_table)] }
def WidthsCodesSaid : Prop := widthsCodesRow.holds Tryd.pinned (OpenSpec.ofChange widthsCodesSpec)

/-- ITS FALSE NEIGHBOUR: 'it returns false'. Refute it at one input. -/
def widthsCodesWrong : ChangeSpec := { name := "widthsCodes", fn := fun _ => fun
  | [d1, d2, d3] => { results := [.lit (.bool false)], args := [d1, d2, d3] }
  | _ => none }
def WidthsCodesWrongFalsely : Prop := widthsCodesRow.holds Tryd.pinned (OpenSpec.ofChange widthsCodesWrong)

/-- 'pilasterlaw02.WidthsBits': WHATEVER THE INPUT: true; the input reads as it did. -/
def widthsBitsSpec : ChangeSpec := { name := "widthsBits", fn := fun _ => fun
  | [d1, d2] => { results := [.lit (.bool true)], args := [d1, d2] }
  | _ => none }
def widthsBitsRow : OpenClaim := { program := "ytgngdfgfjghbbaadoor", sum := "e7cada7731245975b0ca3c67921732ad30f392eb28b3ac62058b05c10c7da485", func := "pilaster/pilasterlaw02.WidthsBits", spec := "widthsBits", named := ["pilaster/widths.table"], apart := false, laid := [("pilaster/widths.table", laid_pilaster_widths_table)] }
def WidthsBitsSaid : Prop := widthsBitsRow.holds Tryd.pinned (OpenSpec.ofChange widthsBitsSpec)

/-- ITS FALSE NEIGHBOUR: 'it returns false'. Refute it at one input. -/
def widthsBitsWrong : ChangeSpec := { name := "widthsBits", fn := fun _ => fun
  | [d1, d2] => { results := [.lit (.bool false)], args := [d1, d2] }
  | _ => none }
def WidthsBitsWrongFalsely : Prop := widthsBitsRow.holds Tryd.pinned (OpenSpec.ofChange widthsBitsWrong)

/-- 'pilasterlaw02.WidthsBack': WHATEVER THE INPUT: true; the input reads as it did. -/
def widthsBackSpec : ChangeSpec := { name := "widthsBack", fn := fun _ => fun
  | [d1, d2] => { results := [.lit (.bool true)], args := [d1, d2] }
  | _ => none }
def widthsBackRow : OpenClaim := { program := "ytgngdfgfjghbbaadoor", sum := "e7cada7731245975b0ca3c67921732ad30f392eb28b3ac62058b05c10c7da485", func := "pilaster/pilasterlaw02.WidthsBack", spec := "widthsBack", named := ["pilaster/widths.table"], apart := false, laid := [("pilaster/widths.table", laid_pilaster_widths_table)] }
def WidthsBackSaid : Prop := widthsBackRow.holds Tryd.pinned (OpenSpec.ofChange widthsBackSpec)

/-- ITS FALSE NEIGHBOUR: 'it returns false'. Refute it at one input. -/
def widthsBackWrong : ChangeSpec := { name := "widthsBack", fn := fun _ => fun
  | [d1, d2] => { results := [.lit (.bool false)], args := [d1, d2] }
  | _ => none }
def WidthsBackWrongFalsely : Prop := widthsBackRow.holds Tryd.pinned (OpenSpec.ofChange widthsBackWrong)

/-- 'pilasterlaw02.WidthsRoom': WHATEVER THE INPUT: true; the input reads as it did. -/
def widthsRoomSpec : ChangeSpec := { name := "widthsRoom", fn := fun _ => fun
  | [d] => { results := [.lit (.bool true)], args := [d] }
  | _ => none }
def widthsRoomRow : OpenClaim := { program := "ytgngdfgfjghbbaadoor", sum := "e7cada7731245975b0ca3c67921732ad30f392eb28b3ac62058b05c10c7da485", func := "pilaster/pilasterlaw02.WidthsRoom", spec := "widthsRoom", named := ["pilaster/widths.table"], apart := false, laid := [("pilaster/widths.table", laid_pilaster_widths_table)] }
def WidthsRoomSaid : Prop := widthsRoomRow.holds Tryd.pinned (OpenSpec.ofChange widthsRoomSpec)

/-- ITS FALSE NEIGHBOUR: 'it returns false'. Refute it at one input. -/
def widthsRoomWrong : ChangeSpec := { name := "widthsRoom", fn := fun _ => fun
  | [d] => { results := [.lit (.bool false)], args := [d] }
  | _ => none }
def WidthsRoomWrongFalsely : Prop := widthsRoomRow.holds Tryd.pinned (OpenSpec.ofChange widthsRoomWrong)

/-- 'pilasterlaw02.WidthsRise': WHATEVER THE INPUT: true; the input reads as it did. -/
def widthsRiseSpec : ChangeSpec := { name := "widthsRise", fn := fun _ => fun
  | [d1, d2, d3] => { results := [.lit (.bool true)], args := [d1, d2, d3] }
  | _ => none }
def widthsRiseRow : OpenClaim := { program := "ytgngdfgfjghbbaadoor", sum := "e7cada7731245975b0ca3c67921732ad30f392eb28b3ac62058b05c10c7da485", func := "pilaster/pilasterlaw02.WidthsRise", spec := "widthsRise", named := ["pilaster/widths.table"], apart := false, laid := [("pilaster/widths.table", laid_pilaster_widths_table)] }
def WidthsRiseSaid : Prop := widthsRiseRow.holds Tryd.pinned (OpenSpec.ofChange widthsRiseSpec)

/-- ITS FALSE NEIGHBOUR: 'it returns false'. Refute it at one input. -/
def widthsRiseWrong : ChangeSpec := { name := "widthsRise", fn := fun _ => fun
  | [d1, d2, d3] => { results := [.lit (.bool false)], args := [d1, d2, d3] }
  | _ => none }
def WidthsRiseWrongFalsely : Prop := widthsRiseRow.holds Tryd.pinned (OpenSpec.ofChange widthsRiseWrong)

/- THE SECOND FORM. 'bulk': how many values and letters a reading holds, each counted each time it is reached (what is shared counts as often as it is met; a slice's spare places count too). A statement '..UptoSaid' is the law's where the arguments, and the package variables that the reading takes, are together of bulk at most 1048576: NARROWER than '..Said'. Prove '..Said' where nothing that the law and all that it calls make is longer than what came in: it says more and counts as full. Else prove '..UptoSaid'. A law counts once. -/
mutual
def uptoBulk {H : Type} : DataW H → Nat
  | .lit (.string bytes) => bytes.length + 1
  | .lit _ => 1
  | .nil => 1
  | .ptr d => uptoBulk d + 1
  | .slice elems spare => uptoBulkAll elems + uptoBulkAll spare + 1
  | .agg parts => uptoBulkAll parts + 1
  | .iface _ d => uptoBulk d + 1
  | .map entries => uptoBulkEntries entries + 1
  | .held _ => 1
def uptoBulkAll {H : Type} : List (DataW H) → Nat
  | [] => 0
  | d :: r => uptoBulk d + uptoBulkAll r
def uptoBulkEntries {H : Type} : List (Lit × DataW H) → Nat
  | [] => 0
  | x :: r => uptoBulkEntry x + uptoBulkEntries r
def uptoBulkEntry {H : Type} : Lit × DataW H → Nat
  | (.string bytes, d) => bytes.length + uptoBulk d + 1
  | (_, d) => uptoBulk d + 1
 end
def uptoSmall : (H : Type) → List (DataW H) → Bool := fun _ ds => decide (uptoBulkAll ds ≤ 1048576)
def OpenSpec.upto (s : _root_.Go.ChangeSpec) : _root_.Go.OpenSpec := { _root_.Go.OpenSpec.ofChange s with cond := some uptoSmall }

/-- 'pilasterlaw02.WidthsCodes', WHERE WHAT IT READS IS OF BULK AT MOST 1048576: true; the input reads as it did. -/
def widthsCodesUptoRow : OpenClaim := { program := "ytgngdfgfjghbbaadoor", sum := "e7cada7731245975b0ca3c67921732ad30f392eb28b3ac62058b05c10c7da485", func := "pilaster/pilasterlaw02.WidthsCodes", spec := "widthsCodes", named := ["pilaster/widths.table"], apart := false, laid := [("pilaster/widths.table", laid_pilaster_widths_table)], narrowed := true }
def WidthsCodesUptoSaid : Prop := widthsCodesUptoRow.holds Tryd.pinned (OpenSpec.upto widthsCodesSpec)

/-- 'pilasterlaw02.WidthsBits', WHERE WHAT IT READS IS OF BULK AT MOST 1048576: true; the input reads as it did. -/
def widthsBitsUptoRow : OpenClaim := { program := "ytgngdfgfjghbbaadoor", sum := "e7cada7731245975b0ca3c67921732ad30f392eb28b3ac62058b05c10c7da485", func := "pilaster/pilasterlaw02.WidthsBits", spec := "widthsBits", named := ["pilaster/widths.table"], apart := false, laid := [("pilaster/widths.table", laid_pilaster_widths_table)], narrowed := true }
def WidthsBitsUptoSaid : Prop := widthsBitsUptoRow.holds Tryd.pinned (OpenSpec.upto widthsBitsSpec)

/-- 'pilasterlaw02.WidthsBack', WHERE WHAT IT READS IS OF BULK AT MOST 1048576: true; the input reads as it did. -/
def widthsBackUptoRow : OpenClaim := { program := "ytgngdfgfjghbbaadoor", sum := "e7cada7731245975b0ca3c67921732ad30f392eb28b3ac62058b05c10c7da485", func := "pilaster/pilasterlaw02.WidthsBack", spec := "widthsBack", named := ["pilaster/widths.table"], apart := false, laid := [("pilaster/widths.table", laid_pilaster_widths_table)], narrowed := true }
def WidthsBackUptoSaid : Prop := widthsBackUptoRow.holds Tryd.pinned (OpenSpec.upto widthsBackSpec)

/-- 'pilasterlaw02.WidthsRoom', WHERE WHAT IT READS IS OF BULK AT MOST 1048576: true; the input reads as it did. -/
def widthsRoomUptoRow : OpenClaim := { program := "ytgngdfgfjghbbaadoor", sum := "e7cada7731245975b0ca3c67921732ad30f392eb28b3ac62058b05c10c7da485", func := "pilaster/pilasterlaw02.WidthsRoom", spec := "widthsRoom", named := ["pilaster/widths.table"], apart := false, laid := [("pilaster/widths.table", laid_pilaster_widths_table)], narrowed := true }
def WidthsRoomUptoSaid : Prop := widthsRoomUptoRow.holds Tryd.pinned (OpenSpec.upto widthsRoomSpec)

/-- 'pilasterlaw02.WidthsRise', WHERE WHAT IT READS IS OF BULK AT MOST 1048576: true; the input reads as it did. -/
def widthsRiseUptoRow : OpenClaim := { program := "ytgngdfgfjghbbaadoor", sum := "e7cada7731245975b0ca3c67921732ad30f392eb28b3ac62058b05c10c7da485", func := "pilaster/pilasterlaw02.WidthsRise", spec := "widthsRise", named := ["pilaster/widths.table"], apart := false, laid := [("pilaster/widths.table", laid_pilaster_widths_table)], narrowed := true }
def WidthsRiseUptoSaid : Prop := widthsRiseUptoRow.holds Tryd.pinned (OpenSpec.upto widthsRiseSpec)

end Rows
end Go.Proofs.YtgngdfgfjghbbaaDoor
