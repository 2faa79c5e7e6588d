/-
  No cell of these rows narrows 'for every input' (looked for: loops, veiled, ifaces, maps, wideKeys, modest, calm, conditions, laid).
  DERIVED. THE GIVEN ROWS OF THIS SEAT. 4 by the template 'for every input the law returns true; each argument reads behind the call as it read before'; 0 by the template 'total and deterministic' (their statements: YtgfbmjbnmikpjaaTotals.lean).
  GIVEN WITH THE SEED: the statements are not yours to turn. If you find one false, say at which input.
  Laid BY PROGRAM, IN A SANDBOX (cutbox-rows.mjs): the forced cells as the released guide's own fill.sh prints them over the translation 662128ad88e61a53… (all of the seat's roots in one cut). By AI agents, Wed Nov 11 2026. No macro, syntax, notation, axiom, sorry.
-/
import Derived.Test.YtgfbmjbnmikpjaaChecked
import GoSem.Claim
import GoSem.ClaimJoined
import GoSem.ClaimMapViews
import Derived.JoinedTies
import Derived.KernelRfl
namespace Go.Proofs.Ytgfbmjbnmikpjaa
/- THE CELL 'sum', in the pinned program and in every row, IS THE sha256 OF THE DUMP (.gsa) THAT YtgfbmjbnmikpjaaProg.lean LOADS. Nothing in Lean hashes anything: it is a label: what it is worth is what the hold of that sum in a sandbox is worth. -/
noncomputable def Try.pinned : Pinned := { name := "ytgfbmjbnmikpjaa", sum := "662128ad88e61a53b3f9e088c36b697b26e3c9c37323b17a7ed38c152d7d73d0", checked := Try.checked }
namespace Rows
def none {H : Type} : Left H := { results := [], args := [] }

/-- 'pilasterlaw06.BoolrlePuts': WHATEVER THE INPUT: true; the input reads as it did. -/
def boolrlePutsSpec : ChangeSpec := { name := "boolrlePuts", fn := fun _ => fun
  | [d] => { results := [.lit (.bool true)], args := [d] }
  | _ => none }
def boolrlePutsRow : OpenClaim := { program := "ytgfbmjbnmikpjaa", sum := "662128ad88e61a53b3f9e088c36b697b26e3c9c37323b17a7ed38c152d7d73d0", func := "pilaster/pilasterlaw06.BoolrlePuts", spec := "boolrlePuts", unfollowed := true, recurses := true, apart := false }
def BoolrlePutsSaid : Prop := boolrlePutsRow.holds Try.pinned (OpenSpec.ofChange boolrlePutsSpec)

/-- ITS FALSE NEIGHBOUR: 'it returns false'. Refute it at one input. -/
def boolrlePutsWrong : ChangeSpec := { name := "boolrlePuts", fn := fun _ => fun
  | [d] => { results := [.lit (.bool false)], args := [d] }
  | _ => none }
def BoolrlePutsWrongFalsely : Prop := boolrlePutsRow.holds Try.pinned (OpenSpec.ofChange boolrlePutsWrong)

/-- 'pilasterlaw06.BoolrleTakes': WHATEVER THE INPUT: true; the input reads as it did. -/
def boolrleTakesSpec : ChangeSpec := { name := "boolrleTakes", fn := fun _ => fun
  | [d1, d2] => { results := [.lit (.bool true)], args := [d1, d2] }
  | _ => none }
def boolrleTakesRow : OpenClaim := { program := "ytgfbmjbnmikpjaa", sum := "662128ad88e61a53b3f9e088c36b697b26e3c9c37323b17a7ed38c152d7d73d0", func := "pilaster/pilasterlaw06.BoolrleTakes", spec := "boolrleTakes", unfollowed := true, recurses := true, apart := false }
def BoolrleTakesSaid : Prop := boolrleTakesRow.holds Try.pinned (OpenSpec.ofChange boolrleTakesSpec)

/-- ITS FALSE NEIGHBOUR: 'it returns false'. Refute it at one input. -/
def boolrleTakesWrong : ChangeSpec := { name := "boolrleTakes", fn := fun _ => fun
  | [d1, d2] => { results := [.lit (.bool false)], args := [d1, d2] }
  | _ => none }
def BoolrleTakesWrongFalsely : Prop := boolrleTakesRow.holds Try.pinned (OpenSpec.ofChange boolrleTakesWrong)

/-- 'pilasterlaw06.BoolrleBack': WHATEVER THE INPUT: true; the input reads as it did. -/
def boolrleBackSpec : ChangeSpec := { name := "boolrleBack", fn := fun _ => fun
  | [d1, d2] => { results := [.lit (.bool true)], args := [d1, d2] }
  | _ => none }
def boolrleBackRow : OpenClaim := { program := "ytgfbmjbnmikpjaa", sum := "662128ad88e61a53b3f9e088c36b697b26e3c9c37323b17a7ed38c152d7d73d0", func := "pilaster/pilasterlaw06.BoolrleBack", spec := "boolrleBack", unfollowed := true, recurses := true, apart := false }
def BoolrleBackSaid : Prop := boolrleBackRow.holds Try.pinned (OpenSpec.ofChange boolrleBackSpec)

/-- ITS FALSE NEIGHBOUR: 'it returns false'. Refute it at one input. -/
def boolrleBackWrong : ChangeSpec := { name := "boolrleBack", fn := fun _ => fun
  | [d1, d2] => { results := [.lit (.bool false)], args := [d1, d2] }
  | _ => none }
def BoolrleBackWrongFalsely : Prop := boolrleBackRow.holds Try.pinned (OpenSpec.ofChange boolrleBackWrong)

/-- 'pilasterlaw06.BoolrleCounts': WHATEVER THE INPUT: true; the input reads as it did. -/
def boolrleCountsSpec : ChangeSpec := { name := "boolrleCounts", fn := fun _ => fun
  | [d1, d2] => { results := [.lit (.bool true)], args := [d1, d2] }
  | _ => none }
def boolrleCountsRow : OpenClaim := { program := "ytgfbmjbnmikpjaa", sum := "662128ad88e61a53b3f9e088c36b697b26e3c9c37323b17a7ed38c152d7d73d0", func := "pilaster/pilasterlaw06.BoolrleCounts", spec := "boolrleCounts", unfollowed := true, recurses := true, apart := false }
def BoolrleCountsSaid : Prop := boolrleCountsRow.holds Try.pinned (OpenSpec.ofChange boolrleCountsSpec)

/-- ITS FALSE NEIGHBOUR: 'it returns false'. Refute it at one input. -/
def boolrleCountsWrong : ChangeSpec := { name := "boolrleCounts", fn := fun _ => fun
  | [d1, d2] => { results := [.lit (.bool false)], args := [d1, d2] }
  | _ => none }
def BoolrleCountsWrongFalsely : Prop := boolrleCountsRow.holds Try.pinned (OpenSpec.ofChange boolrleCountsWrong)

/- THE SECOND FORM. 'bulk': how many values and letters a reading holds, each counted each time it is reached (what is shared counts as often as it is met; a slice's spare places count too). A statement '..UptoSaid' is the law's where the arguments, and the package variables that the reading takes, are together of bulk at most 1048576: NARROWER than '..Said'. Prove '..Said' where nothing that the law and all that it calls make is longer than what came in: it says more and counts as full. Else prove '..UptoSaid'. A law counts once. -/
mutual
def uptoBulk {H : Type} : DataW H → Nat
  | .lit (.string bytes) => bytes.length + 1
  | .lit _ => 1
  | .nil => 1
  | .ptr d => uptoBulk d + 1
  | .slice elems spare => uptoBulkAll elems + uptoBulkAll spare + 1
  | .agg parts => uptoBulkAll parts + 1
  | .iface _ d => uptoBulk d + 1
  | .map entries => uptoBulkEntries entries + 1
  | .held _ => 1
def uptoBulkAll {H : Type} : List (DataW H) → Nat
  | [] => 0
  | d :: r => uptoBulk d + uptoBulkAll r
def uptoBulkEntries {H : Type} : List (Lit × DataW H) → Nat
  | [] => 0
  | x :: r => uptoBulkEntry x + uptoBulkEntries r
def uptoBulkEntry {H : Type} : Lit × DataW H → Nat
  | (.string bytes, d) => bytes.length + uptoBulk d + 1
  | (_, d) => uptoBulk d + 1
 end
def uptoSmall : (H : Type) → List (DataW H) → Bool := fun _ ds => decide (uptoBulkAll ds ≤ 1048576)
def OpenSpec.upto (s : _root_.Go.ChangeSpec) : _root_.Go.OpenSpec := { _root_.Go.OpenSpec.ofChange s with cond := some uptoSmall }

/-- 'pilasterlaw06.BoolrlePuts', WHERE WHAT IT READS IS OF BULK AT MOST 1048576: true; the input reads as it did. -/
def boolrlePutsUptoRow : OpenClaim := { program := "ytgfbmjbnmikpjaa", sum := "662128ad88e61a53b3f9e088c36b697b26e3c9c37323b17a7ed38c152d7d73d0", func := "pilaster/pilasterlaw06.BoolrlePuts", spec := "boolrlePuts", unfollowed := true, recurses := true, apart := false, narrowed := true }
def BoolrlePutsUptoSaid : Prop := boolrlePutsUptoRow.holds Try.pinned (OpenSpec.upto boolrlePutsSpec)

/-- 'pilasterlaw06.BoolrleTakes', WHERE WHAT IT READS IS OF BULK AT MOST 1048576: true; the input reads as it did. -/
def boolrleTakesUptoRow : OpenClaim := { program := "ytgfbmjbnmikpjaa", sum := "662128ad88e61a53b3f9e088c36b697b26e3c9c37323b17a7ed38c152d7d73d0", func := "pilaster/pilasterlaw06.BoolrleTakes", spec := "boolrleTakes", unfollowed := true, recurses := true, apart := false, narrowed := true }
def BoolrleTakesUptoSaid : Prop := boolrleTakesUptoRow.holds Try.pinned (OpenSpec.upto boolrleTakesSpec)

/-- 'pilasterlaw06.BoolrleBack', WHERE WHAT IT READS IS OF BULK AT MOST 1048576: true; the input reads as it did. -/
def boolrleBackUptoRow : OpenClaim := { program := "ytgfbmjbnmikpjaa", sum := "662128ad88e61a53b3f9e088c36b697b26e3c9c37323b17a7ed38c152d7d73d0", func := "pilaster/pilasterlaw06.BoolrleBack", spec := "boolrleBack", unfollowed := true, recurses := true, apart := false, narrowed := true }
def BoolrleBackUptoSaid : Prop := boolrleBackUptoRow.holds Try.pinned (OpenSpec.upto boolrleBackSpec)

/-- 'pilasterlaw06.BoolrleCounts', WHERE WHAT IT READS IS OF BULK AT MOST 1048576: true; the input reads as it did. -/
def boolrleCountsUptoRow : OpenClaim := { program := "ytgfbmjbnmikpjaa", sum := "662128ad88e61a53b3f9e088c36b697b26e3c9c37323b17a7ed38c152d7d73d0", func := "pilaster/pilasterlaw06.BoolrleCounts", spec := "boolrleCounts", unfollowed := true, recurses := true, apart := false, narrowed := true }
def BoolrleCountsUptoSaid : Prop := boolrleCountsUptoRow.holds Try.pinned (OpenSpec.upto boolrleCountsSpec)

end Rows
end Go.Proofs.Ytgfbmjbnmikpjaa
