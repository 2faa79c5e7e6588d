/-
  No cell of these rows narrows 'for every input' (looked for: loops, veiled, ifaces, maps, wideKeys, modest, calm, conditions, laid).
  DERIVED. THE GIVEN ROWS OF THIS SEAT. 3 by the template 'for every input the law returns true; each argument reads behind the call as it read before'; 0 by the template 'total and deterministic' (their statements: YthbmgedfhpdmpaaTotals.lean).
  GIVEN WITH THE SEED: the statements are not yours to turn. If you find one false, say at which input.
  Laid BY PROGRAM, IN A SANDBOX (cutbox-rows.mjs): the forced cells as the released guide's own fill.sh prints them over the translation d399e77700b3f152… (all of the seat's roots in one cut). By AI agents, Wed Nov 11 2026. No macro, syntax, notation, axiom, sorry.
-/
import Derived.Test.YthbmgedfhpdmpaaChecked
import GoSem.Claim
import GoSem.ClaimJoined
import GoSem.ClaimMapViews
import Derived.JoinedTies
import Derived.KernelRfl
namespace Go.Proofs.Ythbmgedfhpdmpaa
/- THE CELL 'sum', in the pinned program and in every row, IS THE sha256 OF THE DUMP (.gsa) THAT YthbmgedfhpdmpaaProg.lean LOADS. Nothing in Lean hashes anything: it is a label: what it is worth is what the hold of that sum in a sandbox is worth. -/
noncomputable def Try.pinned : Pinned := { name := "ythbmgedfhpdmpaa", sum := "d399e77700b3f1528be4185e9e9208d5da0f5b750ca6bb6c9e82f65c192b8790", checked := Try.checked }
namespace Rows
def none {H : Type} : Left H := { results := [], args := [] }

/-- 'pilasterlaw07.RepeatPuts': WHATEVER THE INPUT: true; the input reads as it did. -/
def repeatPutsSpec : ChangeSpec := { name := "repeatPuts", fn := fun _ => fun
  | [d1, d2, d3] => { results := [.lit (.bool true)], args := [d1, d2, d3] }
  | _ => none }
def repeatPutsRow : OpenClaim := { program := "ythbmgedfhpdmpaa", sum := "d399e77700b3f1528be4185e9e9208d5da0f5b750ca6bb6c9e82f65c192b8790", func := "pilaster/pilasterlaw07.RepeatPuts", spec := "repeatPuts", apart := false }
def RepeatPutsSaid : Prop := repeatPutsRow.holds Try.pinned (OpenSpec.ofChange repeatPutsSpec)

/-- ITS FALSE NEIGHBOUR: 'it returns false'. Refute it at one input. -/
def repeatPutsWrong : ChangeSpec := { name := "repeatPuts", fn := fun _ => fun
  | [d1, d2, d3] => { results := [.lit (.bool false)], args := [d1, d2, d3] }
  | _ => none }
def RepeatPutsWrongFalsely : Prop := repeatPutsRow.holds Try.pinned (OpenSpec.ofChange repeatPutsWrong)

/-- 'pilasterlaw07.RepeatTakes': WHATEVER THE INPUT: true; the input reads as it did. -/
def repeatTakesSpec : ChangeSpec := { name := "repeatTakes", fn := fun _ => fun
  | [d1, d2] => { results := [.lit (.bool true)], args := [d1, d2] }
  | _ => none }
def repeatTakesRow : OpenClaim := { program := "ythbmgedfhpdmpaa", sum := "d399e77700b3f1528be4185e9e9208d5da0f5b750ca6bb6c9e82f65c192b8790", func := "pilaster/pilasterlaw07.RepeatTakes", spec := "repeatTakes", apart := false }
def RepeatTakesSaid : Prop := repeatTakesRow.holds Try.pinned (OpenSpec.ofChange repeatTakesSpec)

/-- ITS FALSE NEIGHBOUR: 'it returns false'. Refute it at one input. -/
def repeatTakesWrong : ChangeSpec := { name := "repeatTakes", fn := fun _ => fun
  | [d1, d2] => { results := [.lit (.bool false)], args := [d1, d2] }
  | _ => none }
def RepeatTakesWrongFalsely : Prop := repeatTakesRow.holds Try.pinned (OpenSpec.ofChange repeatTakesWrong)

/-- 'pilasterlaw07.RepeatBack': WHATEVER THE INPUT: true; the input reads as it did. -/
def repeatBackSpec : ChangeSpec := { name := "repeatBack", fn := fun _ => fun
  | [d1, d2, d3] => { results := [.lit (.bool true)], args := [d1, d2, d3] }
  | _ => none }
def repeatBackRow : OpenClaim := { program := "ythbmgedfhpdmpaa", sum := "d399e77700b3f1528be4185e9e9208d5da0f5b750ca6bb6c9e82f65c192b8790", func := "pilaster/pilasterlaw07.RepeatBack", spec := "repeatBack", apart := false }
def RepeatBackSaid : Prop := repeatBackRow.holds Try.pinned (OpenSpec.ofChange repeatBackSpec)

/-- ITS FALSE NEIGHBOUR: 'it returns false'. Refute it at one input. -/
def repeatBackWrong : ChangeSpec := { name := "repeatBack", fn := fun _ => fun
  | [d1, d2, d3] => { results := [.lit (.bool false)], args := [d1, d2, d3] }
  | _ => none }
def RepeatBackWrongFalsely : Prop := repeatBackRow.holds Try.pinned (OpenSpec.ofChange repeatBackWrong)

/- THE SECOND FORM. 'bulk': how many values and letters a reading holds, each counted each time it is reached (what is shared counts as often as it is met; a slice's spare places count too). A statement '..UptoSaid' is the law's where the arguments, and the package variables that the reading takes, are together of bulk at most 1048576: NARROWER than '..Said'. Prove '..Said' where nothing that the law and all that it calls make is longer than what came in: it says more and counts as full. Else prove '..UptoSaid'. A law counts once. -/
mutual
def uptoBulk {H : Type} : DataW H → Nat
  | .lit (.string bytes) => bytes.length + 1
  | .lit _ => 1
  | .nil => 1
  | .ptr d => uptoBulk d + 1
  | .slice elems spare => uptoBulkAll elems + uptoBulkAll spare + 1
  | .agg parts => uptoBulkAll parts + 1
  | .iface _ d => uptoBulk d + 1
  | .map entries => uptoBulkEntries entries + 1
  | .held _ => 1
def uptoBulkAll {H : Type} : List (DataW H) → Nat
  | [] => 0
  | d :: r => uptoBulk d + uptoBulkAll r
def uptoBulkEntries {H : Type} : List (Lit × DataW H) → Nat
  | [] => 0
  | x :: r => uptoBulkEntry x + uptoBulkEntries r
def uptoBulkEntry {H : Type} : Lit × DataW H → Nat
  | (.string bytes, d) => bytes.length + uptoBulk d + 1
  | (_, d) => uptoBulk d + 1
 end
def uptoSmall : (H : Type) → List (DataW H) → Bool := fun _ ds => decide (uptoBulkAll ds ≤ 1048576)
def OpenSpec.upto (s : _root_.Go.ChangeSpec) : _root_.Go.OpenSpec := { _root_.Go.OpenSpec.ofChange s with cond := some uptoSmall }

/-- 'pilasterlaw07.RepeatPuts', WHERE WHAT IT READS IS OF BULK AT MOST 1048576: true; the input reads as it did. -/
def repeatPutsUptoRow : OpenClaim := { program := "ythbmgedfhpdmpaa", sum := "d399e77700b3f1528be4185e9e9208d5da0f5b750ca6bb6c9e82f65c192b8790", func := "pilaster/pilasterlaw07.RepeatPuts", spec := "repeatPuts", apart := false, narrowed := true }
def RepeatPutsUptoSaid : Prop := repeatPutsUptoRow.holds Try.pinned (OpenSpec.upto repeatPutsSpec)

/-- 'pilasterlaw07.RepeatTakes', WHERE WHAT IT READS IS OF BULK AT MOST 1048576: true; the input reads as it did. -/
def repeatTakesUptoRow : OpenClaim := { program := "ythbmgedfhpdmpaa", sum := "d399e77700b3f1528be4185e9e9208d5da0f5b750ca6bb6c9e82f65c192b8790", func := "pilaster/pilasterlaw07.RepeatTakes", spec := "repeatTakes", apart := false, narrowed := true }
def RepeatTakesUptoSaid : Prop := repeatTakesUptoRow.holds Try.pinned (OpenSpec.upto repeatTakesSpec)

/-- 'pilasterlaw07.RepeatBack', WHERE WHAT IT READS IS OF BULK AT MOST 1048576: true; the input reads as it did. -/
def repeatBackUptoRow : OpenClaim := { program := "ythbmgedfhpdmpaa", sum := "d399e77700b3f1528be4185e9e9208d5da0f5b750ca6bb6c9e82f65c192b8790", func := "pilaster/pilasterlaw07.RepeatBack", spec := "repeatBack", apart := false, narrowed := true }
def RepeatBackUptoSaid : Prop := repeatBackUptoRow.holds Try.pinned (OpenSpec.upto repeatBackSpec)

end Rows
end Go.Proofs.Ythbmgedfhpdmpaa
