/-
  No cell of these rows narrows 'for every input' (looked for: loops, veiled, ifaces, maps, wideKeys, modest, calm, conditions, laid).
  DERIVED. THE GIVEN ROWS OF THIS SEAT. 4 by the template 'for every input the law returns true; each argument reads behind the call as it read before'; 0 by the template 'total and deterministic' (their statements: YtffglnccpbbclaaTotals.lean).
  GIVEN WITH THE SEED: the statements are not yours to turn. If you find one false, say at which input.
  Laid BY PROGRAM, IN A SANDBOX (cutbox-rows.mjs): the forced cells as the released guide's own fill.sh prints them over the translation e982ff656ab55231… (all of the seat's roots in one cut). By AI agents, Wed Nov 11 2026. No macro, syntax, notation, axiom, sorry.
-/
import Derived.Test.YtffglnccpbbclaaChecked
import GoSem.Claim
import GoSem.ClaimJoined
import GoSem.ClaimMapViews
import Derived.JoinedTies
import Derived.KernelRfl
namespace Go.Proofs.Ytffglnccpbbclaa
/- THE CELL 'sum', in the pinned program and in every row, IS THE sha256 OF THE DUMP (.gsa) THAT YtffglnccpbbclaaProg.lean LOADS. Nothing in Lean hashes anything: it is a label: what it is worth is what the hold of that sum in a sandbox is worth. -/
noncomputable def Try.pinned : Pinned := { name := "ytffglnccpbbclaa", sum := "e982ff656ab552310970087433301ff50395bb6d7a718d45fdb760892087aac6", checked := Try.checked }
namespace Rows
def none {H : Type} : Left H := { results := [], args := [] }

/-- 'pilasterlaw13.NullsSplits': WHATEVER THE INPUT: true; the input reads as it did. -/
def nullsSplitsSpec : ChangeSpec := { name := "nullsSplits", fn := fun _ => fun
  | [d1, d2] => { results := [.lit (.bool true)], args := [d1, d2] }
  | _ => none }
def nullsSplitsRow : OpenClaim := { program := "ytffglnccpbbclaa", sum := "e982ff656ab552310970087433301ff50395bb6d7a718d45fdb760892087aac6", func := "pilaster/pilasterlaw13.NullsSplits", spec := "nullsSplits", unfollowed := true, recurses := true, apart := false }
def NullsSplitsSaid : Prop := nullsSplitsRow.holds Try.pinned (OpenSpec.ofChange nullsSplitsSpec)

/-- ITS FALSE NEIGHBOUR: 'it returns false'. Refute it at one input. -/
def nullsSplitsWrong : ChangeSpec := { name := "nullsSplits", fn := fun _ => fun
  | [d1, d2] => { results := [.lit (.bool false)], args := [d1, d2] }
  | _ => none }
def NullsSplitsWrongFalsely : Prop := nullsSplitsRow.holds Try.pinned (OpenSpec.ofChange nullsSplitsWrong)

/-- 'pilasterlaw13.NullsPuts': WHATEVER THE INPUT: true; the input reads as it did. -/
def nullsPutsSpec : ChangeSpec := { name := "nullsPuts", fn := fun _ => fun
  | [d] => { results := [.lit (.bool true)], args := [d] }
  | _ => none }
def nullsPutsRow : OpenClaim := { program := "ytffglnccpbbclaa", sum := "e982ff656ab552310970087433301ff50395bb6d7a718d45fdb760892087aac6", func := "pilaster/pilasterlaw13.NullsPuts", spec := "nullsPuts", unfollowed := true, recurses := true, apart := false }
def NullsPutsSaid : Prop := nullsPutsRow.holds Try.pinned (OpenSpec.ofChange nullsPutsSpec)

/-- ITS FALSE NEIGHBOUR: 'it returns false'. Refute it at one input. -/
def nullsPutsWrong : ChangeSpec := { name := "nullsPuts", fn := fun _ => fun
  | [d] => { results := [.lit (.bool false)], args := [d] }
  | _ => none }
def NullsPutsWrongFalsely : Prop := nullsPutsRow.holds Try.pinned (OpenSpec.ofChange nullsPutsWrong)

/-- 'pilasterlaw13.NullsTakes': WHATEVER THE INPUT: true; the input reads as it did. -/
def nullsTakesSpec : ChangeSpec := { name := "nullsTakes", fn := fun _ => fun
  | [d1, d2] => { results := [.lit (.bool true)], args := [d1, d2] }
  | _ => none }
def nullsTakesRow : OpenClaim := { program := "ytffglnccpbbclaa", sum := "e982ff656ab552310970087433301ff50395bb6d7a718d45fdb760892087aac6", func := "pilaster/pilasterlaw13.NullsTakes", spec := "nullsTakes", unfollowed := true, recurses := true, apart := false }
def NullsTakesSaid : Prop := nullsTakesRow.holds Try.pinned (OpenSpec.ofChange nullsTakesSpec)

/-- ITS FALSE NEIGHBOUR: 'it returns false'. Refute it at one input. -/
def nullsTakesWrong : ChangeSpec := { name := "nullsTakes", fn := fun _ => fun
  | [d1, d2] => { results := [.lit (.bool false)], args := [d1, d2] }
  | _ => none }
def NullsTakesWrongFalsely : Prop := nullsTakesRow.holds Try.pinned (OpenSpec.ofChange nullsTakesWrong)

/-- 'pilasterlaw13.NullsBack': WHATEVER THE INPUT: true; the input reads as it did. -/
def nullsBackSpec : ChangeSpec := { name := "nullsBack", fn := fun _ => fun
  | [d] => { results := [.lit (.bool true)], args := [d] }
  | _ => none }
def nullsBackRow : OpenClaim := { program := "ytffglnccpbbclaa", sum := "e982ff656ab552310970087433301ff50395bb6d7a718d45fdb760892087aac6", func := "pilaster/pilasterlaw13.NullsBack", spec := "nullsBack", unfollowed := true, recurses := true, apart := false }
def NullsBackSaid : Prop := nullsBackRow.holds Try.pinned (OpenSpec.ofChange nullsBackSpec)

/-- ITS FALSE NEIGHBOUR: 'it returns false'. Refute it at one input. -/
def nullsBackWrong : ChangeSpec := { name := "nullsBack", fn := fun _ => fun
  | [d] => { results := [.lit (.bool false)], args := [d] }
  | _ => none }
def NullsBackWrongFalsely : Prop := nullsBackRow.holds Try.pinned (OpenSpec.ofChange nullsBackWrong)

/- THE SECOND FORM. 'bulk': how many values and letters a reading holds, each counted each time it is reached (what is shared counts as often as it is met; a slice's spare places count too). A statement '..UptoSaid' is the law's where the arguments, and the package variables that the reading takes, are together of bulk at most 1048576: NARROWER than '..Said'. Prove '..Said' where nothing that the law and all that it calls make is longer than what came in: it says more and counts as full. Else prove '..UptoSaid'. A law counts once. -/
mutual
def uptoBulk {H : Type} : DataW H → Nat
  | .lit (.string bytes) => bytes.length + 1
  | .lit _ => 1
  | .nil => 1
  | .ptr d => uptoBulk d + 1
  | .slice elems spare => uptoBulkAll elems + uptoBulkAll spare + 1
  | .agg parts => uptoBulkAll parts + 1
  | .iface _ d => uptoBulk d + 1
  | .map entries => uptoBulkEntries entries + 1
  | .held _ => 1
def uptoBulkAll {H : Type} : List (DataW H) → Nat
  | [] => 0
  | d :: r => uptoBulk d + uptoBulkAll r
def uptoBulkEntries {H : Type} : List (Lit × DataW H) → Nat
  | [] => 0
  | x :: r => uptoBulkEntry x + uptoBulkEntries r
def uptoBulkEntry {H : Type} : Lit × DataW H → Nat
  | (.string bytes, d) => bytes.length + uptoBulk d + 1
  | (_, d) => uptoBulk d + 1
 end
def uptoSmall : (H : Type) → List (DataW H) → Bool := fun _ ds => decide (uptoBulkAll ds ≤ 1048576)
def OpenSpec.upto (s : _root_.Go.ChangeSpec) : _root_.Go.OpenSpec := { _root_.Go.OpenSpec.ofChange s with cond := some uptoSmall }

/-- 'pilasterlaw13.NullsSplits', WHERE WHAT IT READS IS OF BULK AT MOST 1048576: true; the input reads as it did. -/
def nullsSplitsUptoRow : OpenClaim := { program := "ytffglnccpbbclaa", sum := "e982ff656ab552310970087433301ff50395bb6d7a718d45fdb760892087aac6", func := "pilaster/pilasterlaw13.NullsSplits", spec := "nullsSplits", unfollowed := true, recurses := true, apart := false, narrowed := true }
def NullsSplitsUptoSaid : Prop := nullsSplitsUptoRow.holds Try.pinned (OpenSpec.upto nullsSplitsSpec)

/-- 'pilasterlaw13.NullsPuts', WHERE WHAT IT READS IS OF BULK AT MOST 1048576: true; the input reads as it did. -/
def nullsPutsUptoRow : OpenClaim := { program := "ytffglnccpbbclaa", sum := "e982ff656ab552310970087433301ff50395bb6d7a718d45fdb760892087aac6", func := "pilaster/pilasterlaw13.NullsPuts", spec := "nullsPuts", unfollowed := true, recurses := true, apart := false, narrowed := true }
def NullsPutsUptoSaid : Prop := nullsPutsUptoRow.holds Try.pinned (OpenSpec.upto nullsPutsSpec)

/-- 'pilasterlaw13.NullsTakes', WHERE WHAT IT READS IS OF BULK AT MOST 1048576: true; the input reads as it did. -/
def nullsTakesUptoRow : OpenClaim := { program := "ytffglnccpbbclaa", sum := "e982ff656ab552310970087433301ff50395bb6d7a718d45fdb760892087aac6", func := "pilaster/pilasterlaw13.NullsTakes", spec := "nullsTakes", unfollowed := true, recurses := true, apart := false, narrowed := true }
def NullsTakesUptoSaid : Prop := nullsTakesUptoRow.holds Try.pinned (OpenSpec.upto nullsTakesSpec)

/-- 'pilasterlaw13.NullsBack', WHERE WHAT IT READS IS OF BULK AT MOST 1048576: true; the input reads as it did. -/
def nullsBackUptoRow : OpenClaim := { program := "ytffglnccpbbclaa", sum := "e982ff656ab552310970087433301ff50395bb6d7a718d45fdb760892087aac6", func := "pilaster/pilasterlaw13.NullsBack", spec := "nullsBack", unfollowed := true, recurses := true, apart := false, narrowed := true }
def NullsBackUptoSaid : Prop := nullsBackUptoRow.holds Try.pinned (OpenSpec.upto nullsBackSpec)

end Rows
end Go.Proofs.Ytffglnccpbbclaa
