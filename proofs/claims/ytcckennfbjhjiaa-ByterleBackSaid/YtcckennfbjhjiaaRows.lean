/-
  No cell of these rows narrows 'for every input' (looked for: loops, veiled, ifaces, maps, wideKeys, modest, calm, conditions, laid).
  DERIVED. THE GIVEN ROWS OF THIS SEAT. 3 by the template 'for every input the law returns true; each argument reads behind the call as it read before'; 0 by the template 'total and deterministic' (their statements: YtcckennfbjhjiaaTotals.lean).
  GIVEN WITH THE SEED: the statements are not yours to turn. If you find one false, say at which input.
  Laid BY PROGRAM, IN A SANDBOX (cutbox-rows.mjs): the forced cells as the released guide's own fill.sh prints them over the translation 1d06d16471739513… (all of the seat's roots in one cut). By AI agents, Wed Nov 11 2026. No macro, syntax, notation, axiom, sorry.
-/
import Derived.Test.YtcckennfbjhjiaaChecked
import GoSem.Claim
import GoSem.ClaimJoined
import GoSem.ClaimMapViews
import Derived.JoinedTies
import Derived.KernelRfl
namespace Go.Proofs.Ytcckennfbjhjiaa
/- THE CELL 'sum', in the pinned program and in every row, IS THE sha256 OF THE DUMP (.gsa) THAT YtcckennfbjhjiaaProg.lean LOADS. Nothing in Lean hashes anything: it is a label: what it is worth is what the hold of that sum in a sandbox is worth. -/
noncomputable def Try.pinned : Pinned := { name := "ytcckennfbjhjiaa", sum := "1d06d16471739513f8c1b39989aa1622e228747da2b078c14ec1906f5f5a03e5", checked := Try.checked }
namespace Rows
def none {H : Type} : Left H := { results := [], args := [] }

/-- 'pilasterlaw05.ByterlePuts': WHATEVER THE INPUT: true; the input reads as it did. -/
def byterlePutsSpec : ChangeSpec := { name := "byterlePuts", fn := fun _ => fun
  | [d] => { results := [.lit (.bool true)], args := [d] }
  | _ => none }
def byterlePutsRow : OpenClaim := { program := "ytcckennfbjhjiaa", sum := "1d06d16471739513f8c1b39989aa1622e228747da2b078c14ec1906f5f5a03e5", func := "pilaster/pilasterlaw05.ByterlePuts", spec := "byterlePuts", unfollowed := true, recurses := true, apart := false }
def ByterlePutsSaid : Prop := byterlePutsRow.holds Try.pinned (OpenSpec.ofChange byterlePutsSpec)

/-- ITS FALSE NEIGHBOUR: 'it returns false'. Refute it at one input. -/
def byterlePutsWrong : ChangeSpec := { name := "byterlePuts", fn := fun _ => fun
  | [d] => { results := [.lit (.bool false)], args := [d] }
  | _ => none }
def ByterlePutsWrongFalsely : Prop := byterlePutsRow.holds Try.pinned (OpenSpec.ofChange byterlePutsWrong)

/-- 'pilasterlaw05.ByterleTakes': WHATEVER THE INPUT: true; the input reads as it did. -/
def byterleTakesSpec : ChangeSpec := { name := "byterleTakes", fn := fun _ => fun
  | [d1, d2] => { results := [.lit (.bool true)], args := [d1, d2] }
  | _ => none }
def byterleTakesRow : OpenClaim := { program := "ytcckennfbjhjiaa", sum := "1d06d16471739513f8c1b39989aa1622e228747da2b078c14ec1906f5f5a03e5", func := "pilaster/pilasterlaw05.ByterleTakes", spec := "byterleTakes", unfollowed := true, recurses := true, apart := false }
def ByterleTakesSaid : Prop := byterleTakesRow.holds Try.pinned (OpenSpec.ofChange byterleTakesSpec)

/-- ITS FALSE NEIGHBOUR: 'it returns false'. Refute it at one input. -/
def byterleTakesWrong : ChangeSpec := { name := "byterleTakes", fn := fun _ => fun
  | [d1, d2] => { results := [.lit (.bool false)], args := [d1, d2] }
  | _ => none }
def ByterleTakesWrongFalsely : Prop := byterleTakesRow.holds Try.pinned (OpenSpec.ofChange byterleTakesWrong)

/-- 'pilasterlaw05.ByterleBack': WHATEVER THE INPUT: true; the input reads as it did. -/
def byterleBackSpec : ChangeSpec := { name := "byterleBack", fn := fun _ => fun
  | [d1, d2] => { results := [.lit (.bool true)], args := [d1, d2] }
  | _ => none }
def byterleBackRow : OpenClaim := { program := "ytcckennfbjhjiaa", sum := "1d06d16471739513f8c1b39989aa1622e228747da2b078c14ec1906f5f5a03e5", func := "pilaster/pilasterlaw05.ByterleBack", spec := "byterleBack", unfollowed := true, recurses := true, apart := false }
def ByterleBackSaid : Prop := byterleBackRow.holds Try.pinned (OpenSpec.ofChange byterleBackSpec)

/-- ITS FALSE NEIGHBOUR: 'it returns false'. Refute it at one input. -/
def byterleBackWrong : ChangeSpec := { name := "byterleBack", fn := fun _ => fun
  | [d1, d2] => { results := [.lit (.bool false)], args := [d1, d2] }
  | _ => none }
def ByterleBackWrongFalsely : Prop := byterleBackRow.holds Try.pinned (OpenSpec.ofChange byterleBackWrong)

/- THE SECOND FORM. 'bulk': how many values and letters a reading holds, each counted each time it is reached (what is shared counts as often as it is met; a slice's spare places count too). A statement '..UptoSaid' is the law's where the arguments, and the package variables that the reading takes, are together of bulk at most 1048576: NARROWER than '..Said'. Prove '..Said' where nothing that the law and all that it calls make is longer than what came in: it says more and counts as full. Else prove '..UptoSaid'. A law counts once. -/
mutual
def uptoBulk {H : Type} : DataW H → Nat
  | .lit (.string bytes) => bytes.length + 1
  | .lit _ => 1
  | .nil => 1
  | .ptr d => uptoBulk d + 1
  | .slice elems spare => uptoBulkAll elems + uptoBulkAll spare + 1
  | .agg parts => uptoBulkAll parts + 1
  | .iface _ d => uptoBulk d + 1
  | .map entries => uptoBulkEntries entries + 1
  | .held _ => 1
def uptoBulkAll {H : Type} : List (DataW H) → Nat
  | [] => 0
  | d :: r => uptoBulk d + uptoBulkAll r
def uptoBulkEntries {H : Type} : List (Lit × DataW H) → Nat
  | [] => 0
  | x :: r => uptoBulkEntry x + uptoBulkEntries r
def uptoBulkEntry {H : Type} : Lit × DataW H → Nat
  | (.string bytes, d) => bytes.length + uptoBulk d + 1
  | (_, d) => uptoBulk d + 1
 end
def uptoSmall : (H : Type) → List (DataW H) → Bool := fun _ ds => decide (uptoBulkAll ds ≤ 1048576)
def OpenSpec.upto (s : _root_.Go.ChangeSpec) : _root_.Go.OpenSpec := { _root_.Go.OpenSpec.ofChange s with cond := some uptoSmall }

/-- 'pilasterlaw05.ByterlePuts', WHERE WHAT IT READS IS OF BULK AT MOST 1048576: true; the input reads as it did. -/
def byterlePutsUptoRow : OpenClaim := { program := "ytcckennfbjhjiaa", sum := "1d06d16471739513f8c1b39989aa1622e228747da2b078c14ec1906f5f5a03e5", func := "pilaster/pilasterlaw05.ByterlePuts", spec := "byterlePuts", unfollowed := true, recurses := true, apart := false, narrowed := true }
def ByterlePutsUptoSaid : Prop := byterlePutsUptoRow.holds Try.pinned (OpenSpec.upto byterlePutsSpec)

/-- 'pilasterlaw05.ByterleTakes', WHERE WHAT IT READS IS OF BULK AT MOST 1048576: true; the input reads as it did. -/
def byterleTakesUptoRow : OpenClaim := { program := "ytcckennfbjhjiaa", sum := "1d06d16471739513f8c1b39989aa1622e228747da2b078c14ec1906f5f5a03e5", func := "pilaster/pilasterlaw05.ByterleTakes", spec := "byterleTakes", unfollowed := true, recurses := true, apart := false, narrowed := true }
def ByterleTakesUptoSaid : Prop := byterleTakesUptoRow.holds Try.pinned (OpenSpec.upto byterleTakesSpec)

/-- 'pilasterlaw05.ByterleBack', WHERE WHAT IT READS IS OF BULK AT MOST 1048576: true; the input reads as it did. -/
def byterleBackUptoRow : OpenClaim := { program := "ytcckennfbjhjiaa", sum := "1d06d16471739513f8c1b39989aa1622e228747da2b078c14ec1906f5f5a03e5", func := "pilaster/pilasterlaw05.ByterleBack", spec := "byterleBack", unfollowed := true, recurses := true, apart := false, narrowed := true }
def ByterleBackUptoSaid : Prop := byterleBackUptoRow.holds Try.pinned (OpenSpec.upto byterleBackSpec)

end Rows
end Go.Proofs.Ytcckennfbjhjiaa
