/-
  NARROWER THAN 'FOR EVERY INPUT', by the rows' own cells (each row's printed sentence says how): IntsPuts: laid · IntsTakes: laid · IntsBack: laid.
  DERIVED. THE GIVEN ROWS OF THIS SEAT. 3 by the template 'for every input the law returns true; each argument reads behind the call as it read before'; 0 by the template 'total and deterministic' (their statements: YtlibofmpnlfelaaGreatDoorTotals.lean).
  GIVEN WITH THE SEED: the statements are not yours to turn. If you find one false, say at which input.
  Laid BY PROGRAM, IN A SANDBOX (cutbox-rows.mjs): the forced cells as the released guide's own fill.sh prints them over the translation 337fb2d2d5713025… (all of the seat's roots in one cut). By AI agents, Wed Nov 11 2026. No macro, syntax, notation, axiom, sorry.
-/
import Derived.Test.YtlibofmpnlfelaaGreatDoorChecked
import GoSem.PinnedTables
import GoSem.Claim
import GoSem.ClaimJoined
import GoSem.ClaimMapViews
import Derived.JoinedTies
import Derived.KernelRfl
namespace Go.Proofs.YtlibofmpnlfelaaGreatDoor
/- THE CELL 'sum', in the pinned program and in every row, IS THE sha256 OF THE DUMP (.gsa) THAT YtlibofmpnlfelaaGreatDoorProg.lean LOADS. Nothing in Lean hashes anything: it is a label: what it is worth is what the hold of that sum in a sandbox is worth. -/
noncomputable def Tryz.pinned : Pinned := { name := "ytlibofmpnlfelaagreatdoor", sum := "337fb2d2d5713025b876d479f761d0a2a2854ad9ee196d07fb90d17ec286a0de", checked := Tryz.checked }
namespace Rows
def none {H : Type} : Left H := { results := [], args := [] }

/- WHAT THE LISTED PACKAGE-LEVEL VARIABLES READ AS WHEN THE CALL BEGINS. Each datum BY PROGRAM (the guide's laid-datum.mjs) off the statement by which the dump's own 'gosem.cut.vars' lays the variable. In a bare row this is a premise. The card (YtlibofmpnlfelaaGreatDoorCards.lean) ties it to the program's text. -/
def laid_pilaster_widths_table {H : Type} : DataW H := .agg [.lit (.int .i64 1), .lit (.int .i64 2), .lit (.int .i64 3), .lit (.int .i64 4), .lit (.int .i64 5), .lit (.int .i64 6), .lit (.int .i64 7), .lit (.int .i64 8), .lit (.int .i64 9), .lit (.int .i64 10), .lit (.int .i64 11), .lit (.int .i64 12), .lit (.int .i64 13), .lit (.int .i64 14), .lit (.int .i64 15), .lit (.int .i64 16), .lit (.int .i64 17), .lit (.int .i64 18), .lit (.int .i64 19), .lit (.int .i64 20), .lit (.int .i64 21), .lit (.int .i64 22), .lit (.int .i64 23), .lit (.int .i64 24), .lit (.int .i64 26), .lit (.int .i64 28), .lit (.int .i64 30), .lit (.int .i64 32), .lit (.int .i64 40), .lit (.int .i64 48), .lit (.int .i64 56), .lit (.int .i64 64)]
def laid_unicode_utf8_acceptRanges {H : Type} : DataW H := .agg [.agg [.lit (.int .u8 128), .lit (.int .u8 191)], .agg [.lit (.int .u8 160), .lit (.int .u8 191)], .agg [.lit (.int .u8 128), .lit (.int .u8 159)], .agg [.lit (.int .u8 144), .lit (.int .u8 191)], .agg [.lit (.int .u8 128), .lit (.int .u8 143)], .agg [.lit (.int .u8 0), .lit (.int .u8 0)], .agg [.lit (.int .u8 0), .lit (.int .u8 0)], .agg [.lit (.int .u8 0), .lit (.int .u8 0)], .agg [.lit (.int .u8 0), .lit (.int .u8 0)], .agg [.lit (.int .u8 0), .lit (.int .u8 0)], .agg [.lit (.int .u8 0), .lit (.int .u8 0)], .agg [.lit (.int .u8 0), .lit (.int .u8 0)], .agg [.lit (.int .u8 0), .lit (.int .u8 0)], .agg [.lit (.int .u8 0), .lit (.int .u8 0)], .agg [.lit (.int .u8 0), .lit (.int .u8 0)], .agg [.lit (.int .u8 0), .lit (.int .u8 0)]]
/-- One of Go's own tables, pinned by name: the form's constant. -/
def laid_unicode_utf8_first : DataW Unit := Go.Pinned.utf8First

/-- 'pilasterlaw14.IntsPuts': WHATEVER THE INPUT: true; the input reads as it did. -/
def intsPutsSpec : ChangeSpec := { name := "intsPuts", fn := fun _ => fun
  | [d1, d2] => { results := [.lit (.bool true)], args := [d1, d2] }
  | _ => none }
def intsPutsRow : OpenClaim := { program := "ytlibofmpnlfelaagreatdoor", sum := "337fb2d2d5713025b876d479f761d0a2a2854ad9ee196d07fb90d17ec286a0de", func := "pilaster/pilasterlaw14.IntsPuts", spec := "intsPuts", unfollowed := true, recurses := true, named := ["pilaster/widths.table", "unicode/utf8.first", "unicode/utf8.acceptRanges"], apart := false, laid := [("pilaster/widths.table", laid_pilaster_widths_table), ("unicode/utf8.acceptRanges", laid_unicode_utf8_acceptRanges), ("unicode/utf8.first", laid_unicode_utf8_first)] }
def IntsPutsSaid : Prop := intsPutsRow.holds Tryz.pinned (OpenSpec.ofChange intsPutsSpec)

/-- ITS FALSE NEIGHBOUR: 'it returns false'. Refute it at one input. -/
def intsPutsWrong : ChangeSpec := { name := "intsPuts", fn := fun _ => fun
  | [d1, d2] => { results := [.lit (.bool false)], args := [d1, d2] }
  | _ => none }
def IntsPutsWrongFalsely : Prop := intsPutsRow.holds Tryz.pinned (OpenSpec.ofChange intsPutsWrong)

/-- 'pilasterlaw14.IntsTakes': WHATEVER THE INPUT: true; the input reads as it did. -/
def intsTakesSpec : ChangeSpec := { name := "intsTakes", fn := fun _ => fun
  | [d1, d2, d3] => { results := [.lit (.bool true)], args := [d1, d2, d3] }
  | _ => none }
def intsTakesRow : OpenClaim := { program := "ytlibofmpnlfelaagreatdoor", sum := "337fb2d2d5713025b876d479f761d0a2a2854ad9ee196d07fb90d17ec286a0de", func := "pilaster/pilasterlaw14.IntsTakes", spec := "intsTakes", unfollowed := true, recurses := true, named := ["pilaster/widths.table"], apart := false, laid := [("pilaster/widths.table", laid_pilaster_widths_table)] }
def IntsTakesSaid : Prop := intsTakesRow.holds Tryz.pinned (OpenSpec.ofChange intsTakesSpec)

/-- ITS FALSE NEIGHBOUR: 'it returns false'. Refute it at one input. -/
def intsTakesWrong : ChangeSpec := { name := "intsTakes", fn := fun _ => fun
  | [d1, d2, d3] => { results := [.lit (.bool false)], args := [d1, d2, d3] }
  | _ => none }
def IntsTakesWrongFalsely : Prop := intsTakesRow.holds Tryz.pinned (OpenSpec.ofChange intsTakesWrong)

/-- 'pilasterlaw14.IntsBack': WHATEVER THE INPUT: true; the input reads as it did. -/
def intsBackSpec : ChangeSpec := { name := "intsBack", fn := fun _ => fun
  | [d] => { results := [.lit (.bool true)], args := [d] }
  | _ => none }
def intsBackRow : OpenClaim := { program := "ytlibofmpnlfelaagreatdoor", sum := "337fb2d2d5713025b876d479f761d0a2a2854ad9ee196d07fb90d17ec286a0de", func := "pilaster/pilasterlaw14.IntsBack", spec := "intsBack", unfollowed := true, recurses := true, named := ["pilaster/widths.table"], apart := false, laid := [("pilaster/widths.table", laid_pilaster_widths_table)] }
def IntsBackSaid : Prop := intsBackRow.holds Tryz.pinned (OpenSpec.ofChange intsBackSpec)

/-- ITS FALSE NEIGHBOUR: 'it returns false'. Refute it at one input. -/
def intsBackWrong : ChangeSpec := { name := "intsBack", fn := fun _ => fun
  | [d] => { results := [.lit (.bool false)], args := [d] }
  | _ => none }
def IntsBackWrongFalsely : Prop := intsBackRow.holds Tryz.pinned (OpenSpec.ofChange intsBackWrong)

/- THE SECOND FORM. 'bulk': how many values and letters a reading holds, each counted each time it is reached (what is shared counts as often as it is met; a slice's spare places count too). A statement '..UptoSaid' is the law's where the arguments, and the package variables that the reading takes, are together of bulk at most 1048576: NARROWER than '..Said'. Prove '..Said' where nothing that the law and all that it calls make is longer than what came in: it says more and counts as full. Else prove '..UptoSaid'. A law counts once. -/
mutual
def uptoBulk {H : Type} : DataW H → Nat
  | .lit (.string bytes) => bytes.length + 1
  | .lit _ => 1
  | .nil => 1
  | .ptr d => uptoBulk d + 1
  | .slice elems spare => uptoBulkAll elems + uptoBulkAll spare + 1
  | .agg parts => uptoBulkAll parts + 1
  | .iface _ d => uptoBulk d + 1
  | .map entries => uptoBulkEntries entries + 1
  | .held _ => 1
def uptoBulkAll {H : Type} : List (DataW H) → Nat
  | [] => 0
  | d :: r => uptoBulk d + uptoBulkAll r
def uptoBulkEntries {H : Type} : List (Lit × DataW H) → Nat
  | [] => 0
  | x :: r => uptoBulkEntry x + uptoBulkEntries r
def uptoBulkEntry {H : Type} : Lit × DataW H → Nat
  | (.string bytes, d) => bytes.length + uptoBulk d + 1
  | (_, d) => uptoBulk d + 1
 end
def uptoSmall : (H : Type) → List (DataW H) → Bool := fun _ ds => decide (uptoBulkAll ds ≤ 1048576)
def OpenSpec.upto (s : _root_.Go.ChangeSpec) : _root_.Go.OpenSpec := { _root_.Go.OpenSpec.ofChange s with cond := some uptoSmall }

/-- 'pilasterlaw14.IntsPuts', WHERE WHAT IT READS IS OF BULK AT MOST 1048576: true; the input reads as it did. -/
def intsPutsUptoRow : OpenClaim := { program := "ytlibofmpnlfelaagreatdoor", sum := "337fb2d2d5713025b876d479f761d0a2a2854ad9ee196d07fb90d17ec286a0de", func := "pilaster/pilasterlaw14.IntsPuts", spec := "intsPuts", unfollowed := true, recurses := true, named := ["pilaster/widths.table", "unicode/utf8.first", "unicode/utf8.acceptRanges"], apart := false, laid := [("pilaster/widths.table", laid_pilaster_widths_table), ("unicode/utf8.acceptRanges", laid_unicode_utf8_acceptRanges), ("unicode/utf8.first", laid_unicode_utf8_first)], narrowed := true }
def IntsPutsUptoSaid : Prop := intsPutsUptoRow.holds Tryz.pinned (OpenSpec.upto intsPutsSpec)

/-- 'pilasterlaw14.IntsTakes', WHERE WHAT IT READS IS OF BULK AT MOST 1048576: true; the input reads as it did. -/
def intsTakesUptoRow : OpenClaim := { program := "ytlibofmpnlfelaagreatdoor", sum := "337fb2d2d5713025b876d479f761d0a2a2854ad9ee196d07fb90d17ec286a0de", func := "pilaster/pilasterlaw14.IntsTakes", spec := "intsTakes", unfollowed := true, recurses := true, named := ["pilaster/widths.table"], apart := false, laid := [("pilaster/widths.table", laid_pilaster_widths_table)], narrowed := true }
def IntsTakesUptoSaid : Prop := intsTakesUptoRow.holds Tryz.pinned (OpenSpec.upto intsTakesSpec)

/-- 'pilasterlaw14.IntsBack', WHERE WHAT IT READS IS OF BULK AT MOST 1048576: true; the input reads as it did. -/
def intsBackUptoRow : OpenClaim := { program := "ytlibofmpnlfelaagreatdoor", sum := "337fb2d2d5713025b876d479f761d0a2a2854ad9ee196d07fb90d17ec286a0de", func := "pilaster/pilasterlaw14.IntsBack", spec := "intsBack", unfollowed := true, recurses := true, named := ["pilaster/widths.table"], apart := false, laid := [("pilaster/widths.table", laid_pilaster_widths_table)], narrowed := true }
def IntsBackUptoSaid : Prop := intsBackUptoRow.holds Tryz.pinned (OpenSpec.upto intsBackSpec)

end Rows
end Go.Proofs.YtlibofmpnlfelaaGreatDoor
